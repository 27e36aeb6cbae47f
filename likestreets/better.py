"""Whether a plan is best, and a few houses by which it is bettered if it is not."""

from likestreets.offers import offers_on, sums_within
from likestreets.picks import best_pick
from likestreets.plans import check_plan, counts_of
from likestreets.streets import check_street
from likestreets.sums import sums_of


def better(street, plan):
    """An exchange of few houses that betters the plan; None if the plan is best."""
    check_street(street)
    check_plan(street, plan)
    exchange = bettered(street, counts_of(plan), sums_by_kind(street, street.reach), 1)
    if len(exchange) == 0:
        return None
    return exchange


def is_best(street, plan):
    """Whether no plan of the street has a lesser price."""
    return better(street, plan) is None


def sums_by_kind(street, most):
    """For each kind the sums of at most so many parts that its houses have room for."""
    parts_of = sums_of(street.table, most)
    return [sums_within(kind.bounds(), street.table, parts_of) for kind in street.kinds()]


def bettered(street, counts, sums, scale):
    """The exchange that saves most on this scale, of the plan that is told by its counts; [] if none saves.

    On the scale 1 its changes are sums of few parts together: so if there is none, the plan is best.
    """
    return best_pick(offers_on(street.kinds(), counts, sums, scale), street.reach)

"""A desk: things under names, claims under labels, done by commands, which can be taken back and done again."""

from likestreets.answers import answered
from likestreets.basics import fresh, is_list
from likestreets.board import Board, GONE, changes_told, claim_on, is_wanted
from likestreets.claims import contrary, is_paper_of
from likestreets.commands import DEEDS, is_deed, parsed
from likestreets.deeds import board_behind
from likestreets.errors import CommandFailed, InvalidCommand, InvalidLines, InvalidPaper, LabelTaken, LimitError
from likestreets.errors import MissingError, NameTaken, NothingToRedo, NothingToUndo, StateError, StreetError
from likestreets.errors import TooMany, UnknownLabel, UnknownName, WrongThing

MOST_DEEDS = 300


def check_names(board, arguments):
    """That new names and labels are free, others known, and what is kept there of the kind that is wanted."""
    for role, value in arguments:
        if role == "new" and value in board.things:
            raise NameTaken(value)
        if role == "a new label" and value in board.noted:
            raise LabelTaken(value)
    wanted = wanted_of(arguments)
    for role, name in wanted:
        if name not in board.things:
            raise UnknownName(name)
    for role, value in arguments:
        if role == "a label" and value not in board.noted:
            raise UnknownLabel(value)
    for role, name in wanted:
        if not is_wanted(role, board.things[name]):
            raise WrongThing(name)


def wanted_of(arguments):
    """Tuples (role, name) of the kept things that a command names, as they stand."""
    wanted = []
    for role, value in arguments:
        if role in ("a table", "a street", "a kind", "a plan", "a thing"):
            wanted.append((role, value))
        if role == "kinds":
            wanted = wanted + [("a kind", name) for name in value]
    return wanted


def is_paper(claim, paper):
    """Whether it is a paper of the claim; where that would be too many things to look at, it is none."""
    try:
        return is_paper_of(claim, paper)
    except TooMany:
        return False


class Desk:
    """What is kept and noted now, the deeds with the boards ahead of them, and papers."""

    def __init__(self):
        self._board = Board({}, {}, {})
        self._done = []
        self._undone = []
        self._papers = {}

    @property
    def names(self):
        return sorted(list(self._board.things))

    @property
    def labels(self):
        return sorted(list(self._board.noted))

    def __len__(self):
        return len(self._done)

    def __contains__(self, x):
        return isinstance(x, str) and x in self._board.things

    def __getitem__(self, at):
        if not isinstance(at, str) or at not in self._board.things:
            raise UnknownName(at)
        return fresh(self._board.things[at])

    def __iter__(self):
        raise TypeError("a desk is not iterated over")

    def __call__(self, command):
        return self.do(command)

    def do(self, command):
        """The answer to the command."""
        told = parsed(command)
        if told is None:
            raise InvalidCommand(command)
        word, arguments = told
        check_names(self._board, arguments)
        values = [value for role, value in arguments]
        if word == "undo":
            return self._take_back()
        if word == "redo":
            return self._do_again()
        if word in DEEDS:
            return self._go_on(command, board_behind(self._board, command, word, values))
        return answered(self._board, word, values)

    def _go_on(self, line, board):
        if len(self._done) >= MOST_DEEDS:
            raise TooMany("deeds", MOST_DEEDS)
        answer = changes_told(self._board, board)
        self._done = self._done + [(line, self._board)]
        self._undone = []
        self._board = board
        return answer

    def _take_back(self):
        if len(self._done) == 0:
            raise NothingToUndo()
        line, board = self._done[-1]
        self._undone = self._undone + [(line, self._board)]
        self._done = self._done[:-1]
        self._board = board
        return line

    def _do_again(self):
        if len(self._undone) == 0:
            raise NothingToRedo()
        line, board = self._undone[-1]
        self._done = self._done + [(line, self._board)]
        self._undone = self._undone[:-1]
        self._board = board
        return line

    def do_all(self, *commands):
        """The list of the answers; if a command fails, none has an effect."""
        ahead = self.copy()
        answers = []
        for position, command in enumerate(commands):
            try:
                answers.append(self.do(command))
            except (StreetError, MissingError, StateError, LimitError) as e:
                self._become(ahead)
                raise CommandFailed(position) from e
        return answers

    def attempt(self, *commands):
        """The list of the answers; behind it all is as before."""
        with Trial(self) as held:
            return held.do_all(*commands)

    def _become(self, other):
        """Take over all that the other desk has; what it has is never changed, but replaced."""
        self._board = other._board
        self._done = other._done
        self._undone = other._undone
        self._papers = other._papers

    def claim_of(self, label):
        """The claim of the label, of what is kept now; None while its state is gone."""
        noted = self._noted_under(label)
        if self._board.states[label] == GONE:
            return None
        return claim_on(self._board.things, noted)

    def _noted_under(self, label):
        if not isinstance(label, str) or label not in self._board.noted:
            raise UnknownLabel(label)
        return self._board.noted[label]

    def attach(self, label, paper):
        """Keep the paper of the label's claim, or of the contrary of it, with the label."""
        text = self._noted_under(label)[0]
        for claim in both_claims(self.claim_of(label)):
            if is_paper(claim, paper):
                papers = dict(self._papers)
                papers[label] = (text, claim[0], fresh(paper))
                self._papers = papers
                return
        raise InvalidPaper(paper)

    def fits(self, label):
        """Whether a paper is kept with the label for its words, and is still one of what it was kept for."""
        text = self._noted_under(label)[0]
        kept = self._papers.get(label, None)
        if kept is None or kept[0] != text:
            return False
        claims = [claim for claim in both_claims(self.claim_of(label)) if claim[0] == kept[1]]
        return any([is_paper(claim, kept[2]) for claim in claims])

    def lines(self):
        """The list of the lines of the deeds that are not taken back."""
        return [line for line, board in self._done]

    def copy(self):
        """A desk that goes on by itself, with all that this one has."""
        other = Desk()
        other._become(self)
        return other

    @classmethod
    def again(cls, lines):
        """A desk that has done these deeds."""
        if not is_list(lines):
            raise InvalidLines(None)
        for position, line in enumerate(lines):
            if not is_deed(line):
                raise InvalidLines(position)
        desk = cls()
        desk.do_all(*lines)
        return desk


def both_claims(claim):
    """The claim and its contrary; none of both if it is None."""
    if claim is None:
        return []
    return [claim, contrary(claim)]


class Trial:
    """Behind a block with a trial of a desk all of the desk is as it was ahead of it."""

    def __init__(self, desk):
        self._desk = desk
        self._ahead = None

    def __enter__(self):
        self._ahead = self._desk.copy()
        return self._desk

    def __exit__(self, kind, value, trace):
        self._desk._board = self._ahead._board
        self._desk._done = self._ahead._done
        self._desk._undone = self._ahead._undone
        self._desk._papers = self._ahead._papers


def tried(desk, action):
    """What the action returns for the desk, called within a trial."""
    with Trial(desk) as held:
        return action(held)

"""Any number of like houses on one common stock, and which few must be looked at together."""

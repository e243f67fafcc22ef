"""Turns: blocks that are taken back if an error leaves them."""


class Turn:
    """A turn of a site, for a with statement."""

    def __init__(self, site):
        self.site = site
        self.before = None

    def __enter__(self):
        self.before = self.site.copy()
        return self

    def __exit__(self, kind, value, trace):
        if kind is not None:
            self.site.cost = self.before.cost
            self.site.calls = self.before.calls
            self.site.pairs = self.before.pairs
            self.site.floor = self.before.floor
            self.site.held_rule = self.before.held_rule
            self.site.names = self.before.names
            self.site.cases = self.before.cases
            self.site.stands = self.before.stands

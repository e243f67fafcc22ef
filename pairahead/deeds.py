"""Deeds: what is done to a site, given as tuples, and audits of them."""

from pairahead.errors import PairError


def perform(site, deeds):
    """Do the deeds in their order, all of them in one turn, and return the list of their results."""
    with site.turn():
        return [_done(site, deed) for deed in deeds]


def audited(site, deeds):
    """Do the deeds with a ledger open around their turn, and return their results and the ledger.

    The results are None if an error of the package leaves the turn.
    """
    with site.ledger() as book:
        results = _tried(site, deeds)
    return results, book


def _tried(site, deeds):
    """Return the results of the deeds, or None if an error of the package leaves their turn."""
    try:
        return perform(site, deeds)
    except PairError:
        return None


def _done(site, deed):
    """Do a deed and return its result."""
    kind = deed[0]
    if kind == "call":
        return site.call(deed[1])
    if kind == "repeat":
        return site.repeat(deed[1], deed[2])
    if kind == "try":
        return _tried(site, deed[1])
    if kind == "put":
        site.put(deed[1], deed[2])
    elif kind == "drop":
        site.drop(deed[1])
    elif kind == "assign":
        site[deed[1]] = deed[2]
    elif kind == "rule":
        site.rule = deed[1]
    return None

"""What the searches for shortest sequences of calls share."""


def way_to(entries, at):
    """Return the number of the entry that the search began with, and the tuple of the calls from it to an entry.

    An entry begins with the number of the entry before it and with the call that led on from there. This call is
    None in the entries that the search began with.
    """
    calls = []
    while entries[at][1] is not None:
        calls.append(entries[at][1])
        at = entries[at][0]
    return at, tuple(calls[::-1])

"""Tables of rules as plain rows and starts: least forms, powers, and rules by states of single cases."""

# So many rows may be given: for a rule, a row set or a claim.
MOST_ROWS = 48


def least_form(rows, starts):
    """Return the rows and the starts of the least form of a table, two tuples."""
    classes = _classes(rows)
    merged = _merged(rows, classes)
    begins = [classes[state] for state in starts]
    numbers = _visit_numbers(merged, begins)
    least_rows = tuple([_renumbered(merged[state], numbers) for state in numbers])
    return least_rows, tuple([numbers[state] for state in begins])


def _classes(rows):
    """Return a class for each state; states have the same class exactly if no calls tell them apart."""
    classes = _numbered([(row[1], row[3]) for row in rows])
    finer = _split(rows, classes)
    while finer != classes:
        classes = finer
        finer = _split(rows, classes)
    return classes


def _split(rows, classes):
    """Return the classes in which the next states have the same classes too."""
    return _numbered([
        (classes[state], classes[row[0]], classes[row[2]])
        for state, row in enumerate(rows)
    ])


def _numbered(keys):
    """Return a number for each key, the same for equal keys, in the order of their first occurrence."""
    numbers = {}
    for key in keys:
        if key not in numbers:
            numbers[key] = len(numbers)
    return [numbers[key] for key in keys]


def _merged(rows, classes):
    """Return a row for each class."""
    merged = []
    for state, row in enumerate(rows):
        # The classes are numbered in the order of their first states.
        if classes[state] == len(merged):
            merged.append(_renumbered(row, classes))
    return merged


def _renumbered(row, numbers):
    return numbers[row[0]], row[1], numbers[row[2]], row[3]


def _visit_numbers(rows, starts):
    """Return a dict of the visited states and their numbers, in the order of the visit."""
    numbers = {}
    waiting = list(starts)
    while waiting:
        state = waiting.pop(0)
        if state not in numbers:
            numbers[state] = len(numbers)
            waiting.append(rows[state][0])
            waiting.append(rows[state][2])
    return numbers


def power_rows(rows, k):
    """Return the rows under which only every k-th call of a case counts."""
    return [
        _power_row(row, k, state, ahead, behind)
        for state, row in enumerate(rows)
        for ahead in range(k)
        for behind in range(k)
    ]


def power_starts(starts, marks, k):
    """Return the starts for power_rows: the mark of a case is (its mark) * k + (its first count)."""
    size = marks * k
    return [
        _counted(k, starts[(first // k) * marks + second // k], first % k, second % k)
        for first in range(size)
        for second in range(size)
    ]


def _counted(k, state, ahead, behind):
    """Return the number of a state of the pair together with the counts of the two cases."""
    return (state * k + ahead) * k + behind


def _power_row(row, k, state, ahead, behind):
    next_ahead, falls, next_behind, goes = row
    if ahead + 1 < k:
        first = (_counted(k, state, ahead + 1, behind), False)
    elif falls:
        first = (_counted(k, next_ahead, behind, 0), True)
    else:
        first = (_counted(k, next_ahead, 0, behind), False)
    if behind + 1 < k:
        second = (_counted(k, state, ahead, behind + 1), False)
    elif goes:
        second = (_counted(k, next_behind, 0, ahead), True)
    else:
        second = (_counted(k, next_behind, ahead, 0), False)
    return first + second


def marked_rows(rows):
    """Return the rows of a pair of cases that are moved by their own states.

    If the case ahead is in state p and the one behind in state q, the pair is in state p * len(rows) + q.
    """
    count = len(rows)
    return [_marked_row(rows, ahead, behind) for ahead in range(count) for behind in range(count)]


def _marked_row(rows, ahead, behind):
    count = len(rows)
    after_ahead, word_ahead = rows[ahead]
    if word_ahead == "back":
        first = (behind * count + after_ahead, True)
    else:
        first = (after_ahead * count + behind, False)
    after_behind, word_behind = rows[behind]
    if word_behind == "front":
        second = (after_behind * count + ahead, True)
    else:
        second = (ahead * count + after_behind, False)
    return first + second

"""Tables that tell how many rows go up and down."""


def row_by_steps(row):
    """The table's row behind this one: 0, then each time the number ahead and the next one from this row's end."""
    behind = [0]
    for number in reversed(row):
        behind.append(behind[-1] + number)
    return tuple(behind)


def row_by_sums(row):
    """The table's row behind this one: at k the sum of the last k numbers of this row."""
    many = len(row)
    return tuple([sum(row[many - k:]) for k in range(many + 1)])


def table_to(n):
    """The tuple of the table's rows 0 to n."""
    rows = [(1,)]
    while len(rows) <= n:
        rows.append(row_by_steps(rows[-1]))
    return tuple(rows)


def turns_of(n):
    """How many TURNs of n go down."""
    return table_to(n)[n][-1]

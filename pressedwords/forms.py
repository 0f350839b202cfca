"""Forms, which say how often a letter stands, and their classes [7.1 to 7.3]."""

from pressedwords.deeds import power_of


def form_value(form, numbers):
    """The value of a form at these numbers; a variable without a number counts as 0."""
    number, factors = form
    return number + sum([factor * value for factor, value in zip(factors, numbers)])


def form_sum(forms, many):
    """The sum of forms of many factors each."""
    number = 0
    factors = [0 for _ in range(many)]
    for one, row in forms:
        number += one
        factors = [factor + more for factor, more in zip(factors, row)]
    return (number, tuple(factors))


def form_gap(one, other):
    """One form less another of as many factors."""
    return (one[0] - other[0], tuple([factor - less for factor, less in zip(one[1], other[1])]))


def length_choices(deed):
    """Couples (number, period part) to exactly one of which each length of a block of this deed belongs."""
    first, period = power_of(deed)
    return tuple([(number, 0 if number < first else period) for number in range(1, first + period)])


def class_rows(forms):
    """All class rows of unlike forms, ascending."""
    factor_rows = [tuple(list(factors)) for _, factors in forms]
    row = least_class_row((), factor_rows)
    while row is not None:
        yield row
        row = next_class_row(row, factor_rows)


def least_class_row(begin, factor_rows):
    """The least class row that begins in this way; forms with equal factors are of unlike classes."""
    row = begin
    while len(row) < len(factor_rows):
        row = row + (class_from(0, row, factor_rows),)
    return row


def next_class_row(row, factor_rows):
    """The class row behind this one, or None."""
    for at in range(len(row) - 1, -1, -1):
        entry = class_from(row[at] + 1, row[:at], factor_rows)
        if entry is not None:
            return least_class_row(row[:at] + (entry,), factor_rows)
    return None


def class_from(least, row, factor_rows):
    """The least class, from a least one on, of which the form behind a row of classes may be; None without one."""
    factors = factor_rows[len(row)]
    taken = [entry for entry, other in zip(row, factor_rows) if other == factors]
    for entry in range(least, max(row, default=-1) + 2):
        if entry not in taken:
            return entry
    return None

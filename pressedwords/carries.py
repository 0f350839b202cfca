"""Equations between lengths, answered in base two from the smallest figure on [8.1 to 8.9]."""

from pressedwords.books import is_couple, is_sequence, is_side, is_whole
from pressedwords.errors import BadEquation
from pressedwords.forms import form_value


class Answer:
    """Numbers at which every equation of a system is 0."""

    def __init__(self, numbers):
        self.numbers = numbers

    def __eq__(self, other):
        return isinstance(other, Answer) and self.numbers == other.numbers


class Carries:
    """Carry rows which show that a system has no answer."""

    def __init__(self, rows):
        self.rows = rows

    def __eq__(self, other):
        return isinstance(other, Carries) and self.rows == other.rows


def check_system(system):
    """The system as a tuple of couples of a number and a tuple of factors."""
    if not is_sequence(system):
        raise BadEquation(0, "system")
    for at, equation in enumerate(system):
        # A side is just this: a sequence of whole numbers.
        if not is_couple(equation) or not is_whole(equation[0]) or not is_side(equation[1]):
            raise BadEquation(at, "form")
        if len(equation[1]) != len(system[0][1]):
            raise BadEquation(at, "factors")
    return tuple([(number, tuple(list(factors))) for number, factors in system])


def turns_from(system, carry_row):
    """Couples (figure row, next carry row) for all figure rows that turn the carry row, ascending."""
    turned = [((), tuple(list(carry_row)))]
    for column in columns_of(system):
        turned = [(figures + (figure,), added(sums, column, figure))
                  for figures, sums in turned for figure in figures_of(column)]
    return tuple([(figures, halves(sums)) for figures, sums in turned if not any(parities(sums))])


def columns_of(system):
    """For each variable its factors in all equations."""
    if len(system) == 0:
        return []
    return [tuple([factors[at] for _, factors in system]) for at in range(len(system[0][1]))]


def figures_of(column):
    """The figures of a variable with these factors."""
    return (0, 1) if any(column) else (0,)


def added(sums, column, figure):
    return tuple([one + factor for one, factor in zip(sums, column)]) if figure else sums


def parities(sums):
    return tuple([one & 1 for one in sums])


def halves(sums):
    return tuple([one // 2 for one in sums])


def carry_bounds(system):
    """For each equation how far from 0 its carries are at most."""
    return tuple([abs(number) + sum([abs(factor) for factor in factors]) for number, factors in system])


def start_of_carries(system):
    return tuple([number for number, _ in system])


def moves_of(system):
    """For each row of parities the couples (figure row, sums) that turn carry rows of these parities, ascending.

    Of figure rows with equal sums, which lead to the same carry row, only the least one is there.
    """
    least = {(0,) * len(system): ()}
    for column in columns_of(system):
        grown = {}
        for sums, figures in least.items():
            for figure in figures_of(column):
                key = added(sums, column, figure)
                row = figures + (figure,)
                if key not in grown or row < grown[key]:
                    grown[key] = row
        least = {sums: grown[sums] for sums in grown}
    moves = {}
    for figures, sums in sorted([(least[sums], sums) for sums in least]):
        moves.setdefault(parities(sums), []).append((figures, sums))
    return moves


def next_rows(moves, carry_row):
    """Couples (figure row, next carry row), ascending; each next row stands once, beside its least figure row."""
    return [(figures, tuple([(carry + one) // 2 for carry, one in zip(carry_row, sums)]))
            for figures, sums in moves.get(parities(carry_row), [])]


def whole(system):
    """The first Answer of a system, or the Carries which show that it has none."""
    equations = check_system(system)
    moves = moves_of(equations)
    start = start_of_carries(equations)
    zero = (0,) * len(equations)
    ways = {start: None}
    waiting = [start]
    at = 0
    # Rows come in the order of their first ways: those of fewer turns first, of these those with lesser figures.
    while at < len(waiting) and zero not in ways:
        for figures, row in next_rows(moves, waiting[at]):
            if row not in ways:
                ways[row] = (waiting[at], figures)
                waiting.append(row)
        at += 1
    if zero in ways:
        return Answer(numbers_of(ways, zero, len(columns_of(equations))))
    return Carries(tuple(sorted(waiting)))


def numbers_of(ways, row, many):
    """The numbers of many variables whose figures lead to this row."""
    numbers = [0 for _ in range(many)]
    while ways[row] is not None:
        # The way is gone backward, from the greatest figures on.
        row, figures = ways[row]
        numbers = [2 * number + figure for number, figure in zip(numbers, figures)]
    return tuple(numbers)


def judge_carries(system, carries):
    """Why these carry rows do not show that a system has no answer, or None."""
    rows = carries.rows
    if not is_sequence(rows):
        return ("rows",)
    for at, row in enumerate(rows):
        if not is_side(row) or len(row) != len(system):
            return ("row", at)
    plain = [tuple(list(row)) for row in rows]
    if start_of_carries(system) not in plain:
        return ("start",)
    for at, row in enumerate(plain):
        if not any(row):
            return ("zero", at)
    return open_fault(system, plain)


def open_fault(system, rows):
    """The first turn of one of the rows that leads to none of them, as a fault, or None."""
    listed = {row: True for row in rows}
    moves = moves_of(system)
    for at, row in enumerate(rows):
        for figures, behind in next_rows(moves, row):
            if behind not in listed:
                return ("open", at, figures)
    return None


def answer_fault(system, numbers):
    """Why these numbers are no answer of the system, or None."""
    if not is_sequence(numbers) or (len(system) > 0 and len(numbers) != len(system[0][1])):
        return ("numbers",)
    for at, number in enumerate(numbers):
        if not is_whole(number) or number < 0:
            return ("number", at)
    for at, equation in enumerate(system):
        if form_value(equation, numbers) != 0:
            return ("equation", at)
    return None

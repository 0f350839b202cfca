"""Equations between lengths [8.1 to 8.9]."""

import random
import unittest
from itertools import product

from pressedwords.carries import (Answer, Carries, answer_fault, carry_bounds, check_system, judge_carries, turns_from,
                                  whole)
from pressedwords.errors import BadEquation
from pressedwords.forms import form_value
from tests.helpers import as_lists, caught, check_result, holds_list


def plain_turns(system, carry_row):
    columns = len(system[0][1]) if system else 0
    turns = []
    for figures in product((0, 1), repeat=columns):
        if any(figure and not any(factors[at] for _, factors in system) for at, figure in enumerate(figures)):
            continue
        sums = [carry + sum(map(lambda f, x: f * x, factors, figures))
                for carry, (_, factors) in zip(carry_row, system)]
        if all(one % 2 == 0 for one in sums):
            turns.append((figures, tuple(one // 2 for one in sums)))
    return tuple(turns)


def all_carry_rows(system):
    """All carry rows that turns reach from the start row."""
    start = tuple(number for number, _ in system)
    found = {start: True}
    waiting = [start]
    while waiting:
        for _, then in plain_turns(system, waiting.pop()):
            if then not in found:
                found[then] = True
                waiting.append(then)
    return tuple(sorted(found))


def figure_rows(numbers):
    """How many figure rows the numbers have, and the rows from value 1 on."""
    many = max([number.bit_length() for number in numbers], default=0)
    return many, tuple(tuple(number >> at & 1 for number in numbers) for at in range(many))


def plain_answer(system, most):
    """The first answer with numbers below 2 ** most, by trying all."""
    columns = len(system[0][1]) if system else 0
    unused = [at for at in range(columns) if not any(factors[at] for _, factors in system)]
    answers = [numbers for numbers in product(range(2 ** most), repeat=columns)
               if not any(numbers[at] for at in unused) and all(form_value(one, numbers) == 0 for one in system)]
    return min(answers, key=figure_rows, default=None)


class CheckTest(unittest.TestCase):
    def test_tuples(self):
        given = [[3, [2, -3]], (0, (0, 10 ** 100))]
        self.assertEqual(check_system(given), ((3, (2, -3)), (0, (0, 10 ** 100))))
        self.assertFalse(holds_list(check_system(given)))
        self.assertEqual(check_system([]), ())
        self.assertEqual(check_system(((5, ()), [6, []])), ((5, ()), (6, ())))

    def test_no_system(self):
        for thing in (None, 3, "ab", True, {}):
            self.assertEqual(caught(BadEquation, check_system, thing), (0, "system"))
            self.assertEqual(caught(BadEquation, whole, thing), (0, "system"))

    def test_no_form(self):
        for thing in (3, "ab", None, (), (3,), (3, (1,), 2), (True, (1,)), ("3", (1,)), (3, 1), (3, "1"), (3, (True,)),
                      (3, ("1",)), (3, ((1,),)), ((3,), (1,)), (3, None)):
            self.assertEqual(caught(BadEquation, check_system, (thing,)), (0, "form"))
            self.assertEqual(caught(BadEquation, check_system, ((1, (1,)), thing, thing)), (1, "form"))
            self.assertEqual(caught(BadEquation, whole, [[1, [1]], [2, [1]], thing]), (2, "form"))

    def test_unlike_counts_of_factors(self):
        self.assertEqual(caught(BadEquation, check_system, ((1, (1,)), (1, (1, 2)))), (1, "factors"))
        self.assertEqual(caught(BadEquation, check_system, ((1, ()), (1, ()), (1, (0,)))), (2, "factors"))
        self.assertEqual(caught(BadEquation, whole, ((1, (1, 2)), (1, (1,)))), (1, "factors"))

    def test_the_first_of_two_faults(self):
        self.assertEqual(caught(BadEquation, check_system, ((1, (1,)), (1, ()), 3)), (1, "factors"))
        self.assertEqual(caught(BadEquation, check_system, ((1, (1,)), 3, (1, ()))), (1, "form"))
        self.assertEqual(caught(BadEquation, check_system, ((1, (1,)), (1, (True, 2)))), (1, "form"))


class TurnsTest(unittest.TestCase):
    def test_the_example(self):
        self.assertEqual(turns_from(((3, (2, -3)),), (3,)), (((0, 1), (0,)), ((1, 1), (1,))))
        self.assertEqual(turns_from(((1, (2,)),), (1,)), ())

    def test_no_variables(self):
        self.assertEqual(turns_from((), ()), (((), ()),))
        self.assertEqual(turns_from(((4, ()),), (4,)), (((), (2,)),))
        self.assertEqual(turns_from(((4, ()),), (3,)), ())

    def test_a_variable_without_factors_takes_the_figure_0_alone(self):
        self.assertEqual(turns_from(((2, (0, 2)), (0, (0, 0))), (2, 0)), (((0, 0), (1, 0)), ((0, 1), (2, 0))))
        self.assertEqual(turns_from(((2, (0, 0)), (0, (0, 2))), (2, 0)), (((0, 0), (1, 0)), ((0, 1), (1, 1))))

    def test_against_all_figure_rows(self):
        draw = random.Random(3)
        for _ in range(200):
            many, columns = draw.randrange(1, 4), draw.randrange(5)
            system = tuple((draw.randrange(-9, 10), tuple(draw.randrange(-3, 4) for _ in range(columns)))
                           for _ in range(many))
            row = tuple(draw.randrange(-9, 10) for _ in range(many))
            turns = turns_from(system, row)
            self.assertEqual(turns, plain_turns(system, row))
            self.assertEqual(list(turns), sorted(turns))
            self.assertEqual(turns_from(as_lists(system), list(row)), turns)
            self.assertFalse(holds_list(turns_from(as_lists(system), list(row))))

    def test_bounds(self):
        self.assertEqual(carry_bounds(((3, (2, -3)), (-4, (0, 1)))), (8, 5))
        self.assertEqual(carry_bounds(()), ())
        self.assertEqual(carry_bounds([[-3, []]]), (3,))

    def test_no_carry_is_beyond_its_bound(self):
        draw = random.Random(4)
        for _ in range(60):
            system = tuple((draw.randrange(-30, 31), (draw.randrange(-4, 5), draw.randrange(-4, 5))) for _ in range(2))
            for row in all_carry_rows(system):
                for carry, bound in zip(row, carry_bounds(system)):
                    self.assertLessEqual(abs(carry), bound)


class WholeTest(unittest.TestCase):
    def test_results(self):
        check_result(self, Answer, ["numbers"])
        check_result(self, Carries, ["rows"])
        self.assertFalse(Answer(()) == Carries(()))

    def test_the_examples(self):
        self.assertEqual(whole(((3, (2, -3)),)), Answer((0, 1)))
        self.assertEqual(whole(((1, (2,)),)), Carries(((1,),)))
        self.assertEqual(whole([[1, [2]]]), Carries(((1,),)))

    def test_no_equations(self):
        self.assertEqual(whole(()), Answer(()))
        self.assertEqual(whole([]), Answer(()))

    def test_no_variables(self):
        self.assertEqual(whole(((0, ()),)), Answer(()))
        self.assertEqual(whole(((4, ()),)), Carries(((1,), (2,), (4,))))
        self.assertEqual(whole(((-4, ()), (0, ()))), Carries(((-4, 0), (-2, 0), (-1, 0))))

    def test_all_zeros(self):
        self.assertEqual(whole(((0, (1, 2)), (0, (-3, 4)))), Answer((0, 0)))

    def test_variables_without_factors(self):
        self.assertEqual(whole(((-6, (0, 2, 0)),)), Answer((0, 3, 0)))

    def test_the_first_answer(self):
        # z_0 + z_1 = 5: (2, 3) and (3, 2) have two figures, and of value 1 the row (0, 1) is the least.
        self.assertEqual(whole(((-5, (1, 1)),)), Answer((2, 3)))
        # z_0 + z_1 = 4: (2, 2) has the row (0, 0) of value 1, (1, 3) has (1, 1), and (0, 4) has three figures.
        self.assertEqual(whole(((-4, (1, 1)),)), Answer((2, 2)))
        # z_0 + z_1 = 8 takes four figures only without (4, 4), which is ahead of (1, 7) and (7, 1).
        self.assertEqual(whole(((-8, (1, 1)),)), Answer((4, 4)))
        self.assertEqual(whole(((-1, (1, 1)),)), Answer((0, 1)))

    def test_against_plain_trying(self):
        draw = random.Random(6)
        told = {"Answer": 0, "Carries": 0}
        for _ in range(250):
            many, columns = draw.choice((1, 1, 2, 3)), draw.randrange(4)
            system = tuple((draw.randrange(-8, 9), tuple(draw.randrange(-3, 4) for _ in range(columns)))
                           for _ in range(many))
            answer = whole(system)
            told[type(answer).__name__] += 1
            due = plain_answer(system, 4)
            if isinstance(answer, Answer):
                self.assertIsNone(answer_fault(system, answer.numbers))
                if due is not None or max(answer.numbers, default=0) < 16:
                    self.assertEqual(answer, Answer(due))
                for row in (all_carry_rows(system), ()):
                    self.assertIsNotNone(judge_carries(system, Carries(row)))
            else:
                self.assertIsNone(due)
                self.assertEqual(answer.rows, all_carry_rows(system))
                self.assertIsNone(judge_carries(system, answer))
            self.assertEqual(whole(as_lists(system)), answer)
            self.assertFalse(holds_list(tuple(vars(whole(as_lists(system))).values())))
        self.assertGreater(min(told.values()), 30)

    def test_carries_ascend_each_once(self):
        rows = whole(((7, (6, -4, 2)),)).rows
        self.assertEqual(list(rows), sorted(set(rows)))
        self.assertIn((7,), rows)

    def test_numbers_of_a_hundred_figures(self):
        big = 10 ** 99 + 7
        self.assertEqual(whole(((-3 * big, (3,)),)), Answer((big,)))
        self.assertIsInstance(whole(((-3 * big - 1, (3,)),)), Carries)
        answer = whole(((-big, (3, -5, 0)), (big + 1, (-7, 2, 1))))
        self.assertIsNone(answer_fault(((-big, (3, -5, 0)), (big + 1, (-7, 2, 1))), answer.numbers))
        system = ((big, (4, -2, 6, 8)), (3 * big, (1, 5, -6, 2)))
        told = whole(system)
        self.assertIsInstance(told, Carries)
        self.assertIsNone(judge_carries(system, told))

    def test_many_variables(self):
        # The package itself makes systems of more variables than callers pass.
        factors = tuple(1 if at % 2 else -1 for at in range(20))
        self.assertIsNone(answer_fault(((5, factors),), whole(((5, factors),)).numbers))
        told = whole(((5, tuple(2 * factor for factor in factors)),))
        self.assertEqual(told.rows, ((5,),))

    def test_the_answer_does_not_change(self):
        draw = random.Random(8)
        for _ in range(120):
            system = [(draw.randrange(-20, 5), tuple(draw.randrange(-3, 5) for _ in range(3))) for _ in range(2)]
            answer = whole(system)
            one, other = system
            total = (one[0] + other[0], tuple(map(sum, zip(one[1], other[1]))))
            double = (-2 * one[0], tuple(-2 * factor for factor in one[1]))
            for variant in ([other, one], [one, other, one], [double, other], [total, other], [one, total],
                            [(3 * other[0], tuple(3 * factor for factor in other[1])), one, total]):
                if isinstance(answer, Answer):
                    self.assertEqual(whole(variant), answer)
                else:
                    self.assertIsInstance(whole(variant), Carries)


class JudgeTest(unittest.TestCase):
    SYSTEM = ((6, (4, -8)), (1, (2, 2)))

    def judged(self, rows, system=SYSTEM):
        return judge_carries(system, Carries(rows))

    def test_right_rows(self):
        self.assertIsNone(self.judged(((1,), (2,), (3,)), ((2, (4,)),)))
        system = ((7, (6, -4)),)
        rows = list(whole(system).rows)
        self.assertIsNone(self.judged(rows, system))
        self.assertIsNone(self.judged(rows[::-1] + rows, system))
        self.assertIsNone(self.judged([list(row) for row in rows], system))
        self.assertIsNone(self.judged(tuple(rows) + ((9,), [-11]), system))

    def test_no_sequence(self):
        for rows in (None, 3, "ab", {}):
            self.assertEqual(self.judged(rows), ("rows",))

    def test_no_row(self):
        for row in (None, 3, "ab", (6,), (6, 1, 0), (6, True), (6, "1"), (6, None), ()):
            self.assertEqual(self.judged(((6, 1), row, row)), ("row", 1))
        self.assertEqual(self.judged([None]), ("row", 0))

    def test_no_start(self):
        self.assertEqual(self.judged(()), ("start",))
        self.assertEqual(self.judged(((1, 6), (6, 2))), ("start",))
        self.assertEqual(self.judged(((0, 0),)), ("start",))

    def test_the_zero_row(self):
        self.assertEqual(self.judged(((6, 1), (1, 1), [0, 0], (0, 0))), ("zero", 2))

    def test_an_open_row(self):
        system = ((4, (2, 2)),)
        self.assertEqual(self.judged(((4,),), system), ("open", 0, (0, 0)))
        self.assertEqual(self.judged(((4,), (2,)), system), ("open", 0, (0, 1)))
        self.assertEqual(self.judged(((4,), (2,), (3,)), system), ("open", 1, (0, 0)))
        self.assertEqual(self.judged(((3,), [4], (2,), (1,), (2,)), ((4, (2, 4)),)), ("open", 1, (1, 1)))

    def test_the_first_of_two_faults(self):
        self.assertEqual(self.judged(((0, 0), (6,))), ("row", 1))
        self.assertEqual(self.judged(((6, 1), (0, 0), (2, 2))), ("zero", 1))

    def test_no_equations(self):
        self.assertEqual(judge_carries((), Carries(())), ("start",))
        self.assertEqual(judge_carries((), Carries(((),))), ("zero", 0))
        self.assertEqual(judge_carries((), Carries(((1,),))), ("row", 0))

    def test_open_figures_against_turns(self):
        draw = random.Random(9)
        for _ in range(150):
            system = tuple((draw.randrange(-4, 5), tuple(draw.choice((0, 1, 2, 2, -2)) for _ in range(3)))
                           for _ in range(draw.choice((1, 2))))
            start = tuple(number for number, _ in system)
            rows = [start] + [tuple(draw.randrange(-3, 4) for _ in system) for _ in range(4)]
            due = None
            if any(not any(row) for row in rows):
                due = ("zero", [any(row) for row in rows].index(False))
            else:
                opens = [("open", at, figures) for at, row in enumerate(rows)
                         for figures, then in plain_turns(system, row) if then not in rows]
                due = opens[0] if opens else None
            self.assertEqual(self.judged(rows, system), due)


class AnswerFaultTest(unittest.TestCase):
    SYSTEM = ((3, (2, -3)), (-1, (0, 1)))

    def test_answers(self):
        self.assertIsNone(answer_fault(self.SYSTEM, (0, 1)))
        self.assertIsNone(answer_fault(self.SYSTEM, [0, 1]))
        self.assertIsNone(answer_fault(as_lists(self.SYSTEM), [0, 1]))

    def test_numbers(self):
        for numbers in (None, 3, "ab", (), (0,), (0, 1, 0), {}):
            self.assertEqual(answer_fault(self.SYSTEM, numbers), ("numbers",))
            self.assertEqual(answer_fault(self.SYSTEM[:1], numbers), ("numbers",))

    def test_number(self):
        for number in (-1, True, "1", None, (1,)):
            self.assertEqual(answer_fault(self.SYSTEM, (0, number)), ("number", 1))
        self.assertEqual(answer_fault(self.SYSTEM, (False, -1)), ("number", 0))

    def test_equation(self):
        self.assertEqual(answer_fault(self.SYSTEM, (0, 0)), ("equation", 0))
        self.assertEqual(answer_fault(self.SYSTEM, (3, 3)), ("equation", 1))

    def test_no_equations(self):
        for numbers in ((), (1,), [1, 2, 3]):
            self.assertIsNone(answer_fault((), numbers))
        self.assertEqual(answer_fault((), (1, -2)), ("number", 1))
        self.assertEqual(answer_fault((), "ab"), ("numbers",))


if __name__ == "__main__":
    unittest.main()

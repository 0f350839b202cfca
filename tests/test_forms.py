"""Forms, lengths and class rows [7.1 to 7.3]."""

import unittest
from itertools import product

from pressedwords.deeds import deed_times
from pressedwords.forms import class_rows, form_gap, form_sum, form_value, length_choices
from tests.helpers import holds_list


class FormTest(unittest.TestCase):
    def test_value(self):
        self.assertEqual(form_value((3, (2, -1)), (5, 4)), 9)
        self.assertEqual(form_value((3, ()), ()), 3)
        self.assertEqual(form_value((-3, (2, 0)), [10 ** 40, 7]), 2 * 10 ** 40 - 3)

    def test_missing_numbers_count_as_0(self):
        self.assertEqual(form_value((3, (2, 5, 7)), (1,)), 5)
        self.assertEqual(form_value((3, (2, 5, 7)), ()), 3)

    def test_sum(self):
        self.assertEqual(form_sum(((1, (2, 0)), (3, (-1, 4)), (1, (2, 0))), 2), (5, (3, 4)))
        self.assertEqual(form_sum([(1, (2, 0))], 2), (1, (2, 0)))
        self.assertEqual(form_sum((), 3), (0, (0, 0, 0)))
        self.assertEqual(form_sum((), 0), (0, ()))
        self.assertEqual(form_sum(((2, ()), (3, ())), 0), (5, ()))
        self.assertFalse(holds_list(form_sum([(1, (2, 0)), (1, (2, 0))], 2)))

    def test_gap(self):
        self.assertEqual(form_gap((1, (2, 0)), (3, (-1, 4))), (-2, (3, -4)))
        self.assertEqual(form_gap((1, ()), (1, ())), (0, ()))
        self.assertFalse(holds_list(form_gap((1, (2,)), (3, (1,)))))


class LengthChoicesTest(unittest.TestCase):
    def test_first_and_period(self):
        self.assertEqual(length_choices((0,)), ((1, 1),))
        self.assertEqual(length_choices((1, 0)), ((1, 2), (2, 2)))
        self.assertEqual(length_choices((1, 2, 3, 3)), ((1, 0), (2, 0), (3, 1)))
        self.assertEqual(length_choices((1, 2, 3, 2)), ((1, 0), (2, 2), (3, 2)))

    def test_against_all_lengths(self):
        for states in (1, 2, 3, 4):
            for deed in product(range(states), repeat=states):
                choices = length_choices(deed)
                self.assertEqual(choices, tuple(sorted(choices)))
                self.assertFalse(holds_list(choices))
                for length in range(1, 61):
                    fitting = [(number, period) for number, period in choices
                               if length == number or (period and length > number and (length - number) % period == 0)]
                    self.assertEqual(len(fitting), 1, (deed, length))
                    self.assertEqual(deed_times(deed, length), deed_times(deed, fitting[0][0]))
                # Lengths of unlike choices have unlike deeds, so there are no more choices than needed.
                self.assertEqual(len({deed_times(deed, number) for number, _ in choices}), len(choices))


def plain_class_rows(forms):
    rows = []
    for row in product(range(max(len(forms), 1)), repeat=len(forms)):
        grown = all(entry <= max(row[:at], default=-1) + 1 for at, entry in enumerate(row))
        apart = all(row[one] != row[other] or forms[one][1] != forms[other][1]
                    for other in range(len(forms)) for one in range(other))
        if grown and apart:
            rows.append(row)
    return rows


class ClassRowsTest(unittest.TestCase):
    def test_no_forms(self):
        self.assertEqual(list(class_rows(())), [()])
        self.assertEqual(list(class_rows([])), [()])

    def test_unlike_factors(self):
        forms = ((1, (1, 0)), (1, (0, 1)), (2, (1, 1)))
        self.assertEqual(list(class_rows(forms)), [(0, 0, 0), (0, 0, 1), (0, 1, 0), (0, 1, 1), (0, 1, 2)])
        self.assertEqual(list(class_rows(forms[:1])), [(0,)])

    def test_forms_with_the_same_factors_are_apart(self):
        self.assertEqual(list(class_rows(((1, ()), (2, ()), (3, ())))), [(0, 1, 2)])
        self.assertEqual(list(class_rows([(1, (1,)), (2, (1,)), (1, (2,))])), [(0, 1, 0), (0, 1, 1), (0, 1, 2)])
        self.assertEqual(list(class_rows([(1, (1,)), (1, (2,)), (2, (1,))])), [(0, 0, 1), (0, 1, 1), (0, 1, 2)])

    def test_against_all_rows(self):
        for many in range(6):
            for kinds in product(range(3), repeat=many):
                forms = [(number, (kind,)) for number, kind in enumerate(kinds)]
                rows = list(class_rows(forms))
                self.assertEqual(rows, plain_class_rows(forms))
                self.assertEqual(rows, sorted(rows))

    def test_rows_come_one_by_one(self):
        # Thirty forms have more class rows than could be listed.
        forms = [(1, tuple(int(at == other) for other in range(30))) for at in range(30)]
        rows = iter(class_rows(forms))
        self.assertEqual(next(rows), (0,) * 30)
        self.assertEqual(next(rows), (0,) * 29 + (1,))


if __name__ == "__main__":
    unittest.main()

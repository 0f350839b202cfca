"""Nets of books [9.1 to 9.10]."""

import random
import unittest

from pressedwords.books import Book, Clash, letter_places, size_bound, unknown_places
from pressedwords.carries import Carries
from pressedwords.errors import BadOrder, BadRoom, Ended, NoBook, NotLooked, NotOpen, TooFull
from pressedwords.nets import Look, Net, check_order, check_room, look_over
from pressedwords.stepping import guesses_of, outcome_of
from pressedwords.steps import told_step
from tests.helpers import caught, check_result, lot_for, root_of

ONE = lot_for([], 2)
AB = lot_for([".*ab.*"], 2)
EMPTY = Book((), (), ())
FILLED = ("bXaab=bYY",)
SHUT = ("bXYab=bbaY",)
SMALL = ("YYbb=bbbaY",)
ORDERS = ("first", "last", "least", (0,), (3, 1, 4, 1, 5, 9, 2, 6), (10 ** 6, 0))


def one(*rows):
    return root_of(ONE, *rows)


def outcome_books(book, lot=ONE):
    """The places and books among the outcomes of a book's told step."""
    return [(place, outcome_of(guess)) for place, guess in enumerate(guesses_of(book, told_step(book), lot))
            if isinstance(outcome_of(guess), Book)]


def reachable(roots, lot=ONE):
    """The keys of all books that told steps reach."""
    found = {root.key: root for root in roots if isinstance(root, Book)}
    waiting = list(found.values())
    while waiting:
        book = waiting.pop()
        for _, told in outcome_books(book, lot) if book.rows else ():
            if told.key not in found:
                found[told.key] = told
                waiting.append(told)
    return found


def run(*rows, lot=ONE, **given):
    net = Net([root_of(lot, *rows)], lot, **given)
    net.run(1000)
    return net


class ChecksTest(unittest.TestCase):
    def test_orders(self):
        for order in ("first", "last", "least", (0,), (10 ** 6,), tuple(range(60))):
            self.assertEqual(check_order(order), order)
        told = check_order([3, 1])
        self.assertEqual(told, (3, 1))
        self.assertIs(type(told), tuple)

    def test_wrong_orders(self):
        for order in ("", "First", "middle", None, 0, True, (), [], (True,), (0, False), (-1,), (10 ** 6 + 1,), ("0",),
                      (0,) * 61, ((0,),), (None,), {}, b"first"):
            self.assertEqual(caught(BadOrder, check_order, order), ())
            self.assertEqual(caught(BadOrder, Net, [], ONE, order), ())

    def test_rooms(self):
        for room in (1, 300, 10 ** 6):
            self.assertEqual(check_room(room), room)

    def test_wrong_rooms(self):
        for room in (0, -1, 10 ** 6 + 1, True, False, None, "1", (1,)):
            self.assertEqual(caught(BadRoom, check_room, room), ())
            self.assertEqual(caught(BadRoom, lambda given: Net([], ONE, room=given), room), ())

    def test_the_order_is_checked_first_and_room_ahead_of_the_roots(self):
        roots = [one("aX=Xa"), one("abX=Xab")]
        self.assertEqual(caught(BadOrder, lambda: Net(roots, ONE, "", room=0)), ())
        self.assertEqual(caught(BadRoom, lambda: Net(roots, ONE, room=0)), ())
        self.assertEqual(caught(TooFull, lambda: Net(roots, ONE, room=1)), ((),))


class LookTest(unittest.TestCase):
    def test_look_is_a_result(self):
        check_result(self, Look, ["step", "outcomes"])

    def test_look_over(self):
        for rows in (("aX=Xa",), FILLED, SHUT, ("aaXbY=YXaa",)):
            book = one(*rows)
            look = look_over(book, ONE)
            self.assertEqual(look.step, told_step(book))
            self.assertEqual(look.outcomes, tuple((guess, outcome_of(guess))
                                                  for guess in guesses_of(book, look.step, ONE)))
        kinds = {type(told).__name__ for _, told in look_over(one("aaX=YY"), ONE).outcomes}
        self.assertEqual(kinds, {"Book", "Clash", "Carries"})


class RootsTest(unittest.TestCase):
    def test_no_roots(self):
        net = Net([], ONE)
        self.assertEqual((net.books, net.rooted, net.verdict, net.ended, net.bound, net.largest),
                         ((), (), "shut", True, 0, 0))
        self.assertEqual((net.open_books, net.borrowed, net.looked, net.filled, net.looks), ((), (), (), None, 0))

    def test_equal_roots_and_clashes(self):
        first, second = one("aX=Xa"), one("abX=Xab")
        roots = [Clash("front", 0), first, second, Clash("back", 1), one("bX=Xb"), second]
        net = Net(roots, ONE)
        self.assertEqual(net.books, (first, second))
        self.assertEqual(net.rooted, (None, 0, 1, None, 0, 1))
        self.assertEqual(Net(tuple(roots), ONE).rooted, net.rooted)
        self.assertEqual([net.way_to(number) for number in (0, 1)], [(), ()])
        only = Net([Clash("front", 0)], ONE)
        self.assertEqual((only.verdict, only.rooted, len(only)), ("shut", (None,), 0))

    def test_the_empty_book(self):
        net = Net([one("aX=Xa"), EMPTY, one("abX=Xab"), EMPTY], ONE)
        self.assertEqual((net.verdict, net.filled, net.rooted), ("filled", 1, (0, 1, 2, 1)))
        self.assertEqual(net.open_books, (0, 2))

    def test_room_counts_unlike_books(self):
        net = Net([one("aX=Xa"), one("bX=Xb"), Clash("front", 0)], ONE, room=1)
        self.assertEqual(len(net), 1)

    def test_attributes(self):
        known = [one("aX=Xa")] * 2
        net = Net([one(*SHUT)], AB, [5, 2], room=40, backward=True, known=known)
        self.assertEqual((net.order, net.room, net.backward, net.known, net.looks, net.rooted),
                         ((5, 2), 40, True, tuple(known), 0, (0,)))
        self.assertIs(net.lot, AB)
        self.assertIs(type(net.known), tuple)
        net = Net([], ONE)
        self.assertEqual((net.order, net.room, net.backward, net.known), ("first", 300, False, ()))
        with self.assertRaises(TypeError):
            Net([], ONE, "first", 300)

    def test_what_is_passed_in_stays(self):
        roots, known, order = [one(*SHUT)], [one("aX=Xa")], [1, 2]
        net = Net(roots, ONE, order, known=known)
        roots.append(one("abX=Xab"))
        known.append(one(*SHUT))
        order.append(3)
        net.run(3)
        self.assertEqual((net.rooted, len(net.known), net.order), ((0,), 1, (1, 2)))
        self.assertEqual((len(roots), len(known), order), (2, 2, [1, 2, 3]))


class ContainerTest(unittest.TestCase):
    def test_length_iteration_and_membership(self):
        net = run(*SHUT)
        self.assertEqual(len(net), 27)
        self.assertEqual(tuple(net), net.books)
        self.assertEqual(list(net), [net.books[number] for number in range(27)])
        for book in net.books:
            self.assertIn(Book(book.rows, book.deeds, book.ends, book.states), net)
        self.assertNotIn(one("abX=Xab"), net)
        self.assertNotIn(EMPTY, net)
        self.assertEqual(len({book.key for book in net}), 27)

    def test_tuples(self):
        net = run(*SHUT)
        for told in (net.books, net.open_books, net.borrowed, net.looked, net.rooted, net.known, net.outcomes_at(0),
                     net.way_to(26)):
            self.assertIs(type(told), tuple)


class ListingTest(unittest.TestCase):
    def test_outcomes_from_the_first_place_on(self):
        for backward in (False, True):
            net = Net([one(*SHUT)], ONE, backward=backward)
            due = [one(*SHUT).key]
            ways = [None]
            for _ in range(8):
                number = net.advance()
                places = outcome_books(net.books[number])
                for place, book in places[::-1] if backward else places:
                    if book.key not in due:
                        due.append(book.key)
                        ways.append((number, place))
                self.assertEqual([book.key for book in net.books], due)
            for number, way in enumerate(ways):
                self.assertEqual(net.way_to(number)[-1:], () if way is None else (way,))
        self.assertNotEqual([book.key for book in run(*SHUT)], [book.key for book in run(*SHUT, backward=True)])

    def test_a_look_with_the_empty_book_is_taken_in_whole(self):
        net = run(*FILLED)
        last = net.looked[-1]
        told = [told for _, told in net.outcomes_at(last) if not isinstance(told, (Clash, Carries))]
        self.assertIn(net.filled, told)
        self.assertEqual(len(net), 12)
        for _, book in outcome_books(net.books[last]):
            self.assertIn(book, net)
        self.assertTrue(net.open_books)

    def test_outcomes_at(self):
        for net in (run(*FILLED), run(*SHUT), run("aaX=YY")):
            for number in net.looked:
                due = look_over(net.books[number], ONE).outcomes
                told = net.outcomes_at(number)
                self.assertEqual([guess for guess, _ in told], [guess for guess, _ in due])
                for (_, outcome), (_, book) in zip(told, due):
                    if isinstance(book, Book):
                        self.assertIs(type(outcome), int)
                        self.assertEqual(net.books[outcome], book)
                    else:
                        self.assertEqual(outcome, book)

    def test_each_book_is_one_of_four(self):
        shut = run(*SHUT)
        known = shut.books[3:5] + (one("abX=Xab"),)
        net = Net([one(*SHUT), one("aX=Xa")], ONE, known=known)
        for _ in range(30):
            kinds = [net.open_books, net.borrowed, net.looked, () if net.filled is None else (net.filled,)]
            self.assertEqual(sorted(number for kind in kinds for number in kind), list(range(len(net))))
            if net.ended:
                break
            net.advance()
        self.assertEqual(net.verdict, "filled")


class KnownTest(unittest.TestCase):
    def setUp(self):
        self.whole = run(*SHUT)
        # What is reached from book 5 is closed.
        self.known = list(reachable([self.whole.books[5]]).values())

    def test_borrowed_books_are_never_looked_at(self):
        net = run(*SHUT, known=self.known)
        self.assertEqual(net.verdict, "shut")
        self.assertTrue(net.borrowed)
        self.assertLess(len(net.looked), len(self.whole.looked))
        self.assertEqual(sorted(net.looked + net.borrowed), list(range(len(net))))
        self.assertEqual({net.books[number].key for number in net.borrowed},
                         {book.key for book in net} & {book.key for book in self.known})
        self.assertEqual(list(net.borrowed), sorted(net.borrowed))

    def test_order_doubles_and_books_never_met(self):
        due = run(*SHUT, known=self.known)
        for known in (self.known[::-1], self.known * 2, tuple(self.known) + (one("abX=Xab"),)):
            net = run(*SHUT, known=known)
            self.assertEqual((net.books, net.borrowed, net.looked, net.verdict),
                             (due.books, due.borrowed, due.looked, due.verdict))
            self.assertEqual(net.known, tuple(known))

    def test_a_borrowed_root(self):
        net = Net([one(*SHUT)], ONE, known=[one(*SHUT)])
        self.assertEqual((net.verdict, net.borrowed, net.open_books), ("shut", (0,), ()))
        self.assertEqual(caught(Ended, net.advance), ("shut",))

    def test_an_empty_known_book_is_not_borrowed(self):
        net = Net([EMPTY], ONE, known=[EMPTY])
        self.assertEqual((net.borrowed, net.filled, net.verdict), ((), 0, "filled"))

    def test_filled_with_known_books(self):
        known = list(reachable([one("abX=Xb")]).values())
        self.assertEqual(run("abX=Xb").verdict, "shut")
        net = run(*FILLED, known=known)
        self.assertEqual(net.verdict, "filled")


class VerdictTest(unittest.TestCase):
    def test_verdicts(self):
        net = Net([one(*FILLED)], ONE)
        while net.filled is None:
            self.assertEqual((net.verdict, net.ended), ("going", False))
            net.advance()
        self.assertEqual((net.verdict, net.ended), ("filled", True))
        self.assertEqual(net.books[net.filled], EMPTY)
        net = Net([one(*SHUT)], ONE)
        while net.open_books:
            self.assertEqual((net.verdict, net.ended), ("going", False))
            net.advance()
        self.assertEqual((net.verdict, net.ended), ("shut", True))

    def test_the_verdict_hangs_on_nothing_but_the_roots(self):
        draw = random.Random(1)
        for rows in (FILLED, SHUT, SMALL, ("aX=Xb",), ("aX=Xa",), ("XY=YX",), ("aXXY=XaXY", "XXYb=XYaX"),
                     ("Y=baX", "XY=Yb")):
            found = reachable([one(*rows)])
            due = "filled" if EMPTY.key in found else "shut"
            for order in ORDERS:
                for backward in (False, True):
                    net = Net([one(*rows)], ONE, order, backward=backward)
                    while not net.ended:
                        net.advance()
                        if net.looked and not net.ended and draw.random() < 0.2:
                            net.forget(draw.choice(net.looked))
                    self.assertEqual(net.verdict, due, rows)
                    keys = {book.key for book in net}
                    self.assertTrue(keys == set(found) if due == "shut" else keys <= set(found))

    def test_all_roots_together_and_each_alone(self):
        rows = [SMALL, FILLED, SHUT, ("aX=Xb",)]
        verdicts = [run(*row).verdict for row in rows]
        self.assertEqual(verdicts, ["shut", "filled", "shut", "shut"])
        together = Net([one(*row) for row in rows], ONE)
        together.run(1000)
        self.assertEqual(together.verdict, "filled")
        shut = [row for row, verdict in zip(rows, verdicts) if verdict == "shut"]
        together = Net([one(*row) for row in shut], ONE)
        together.run(1000)
        self.assertEqual(together.verdict, "shut")
        self.assertEqual({book.key for book in together}, set(reachable([one(*row) for row in shut])))

    def test_several_states(self):
        has_ab, none = (0, (2,)), (0, (0, 1))
        whole = (0, (0, 1, 2))
        for ends, verdict in (((none, whole, whole), "shut"), ((has_ab, whole, whole), "filled")):
            root = root_of(AB, "abX=Xab", ends=ends)
            net = Net([root], AB)
            net.run(100)
            self.assertEqual(net.verdict, verdict)


class BoundTest(unittest.TestCase):
    def test_bound_and_largest(self):
        for rows in (FILLED, SHUT, SMALL, ("aXXY=XaXY", "XXYb=XYaX")):
            net = run(*rows)
            self.assertEqual(net.bound, size_bound(one(*rows)))
            self.assertEqual(net.largest, max(letter_places(book) for book in net))
            self.assertLessEqual(net.largest, net.bound)
            for number in net.looked:
                book = net.books[number]
                for _, outcome in net.outcomes_at(number):
                    if isinstance(outcome, int):
                        self.assertLessEqual(unknown_places(net.books[outcome]), unknown_places(book))
                        self.assertLessEqual(len(net.books[outcome].rows), len(book.rows))

    def test_bound_is_the_greatest_of_all_roots(self):
        roots = [one("aX=Xa"), one(*SHUT), one("abX=Xab")]
        net = Net(roots, ONE)
        self.assertEqual(net.bound, max(map(size_bound, roots)))
        net.run(1000)
        self.assertEqual(net.bound, max(map(size_bound, roots)))
        self.assertEqual(Net([EMPTY], ONE).bound, 0)


class OrderTest(unittest.TestCase):
    def due(self, net):
        waiting = net.open_books
        if net.order == "first":
            return min(waiting)
        if net.order == "last":
            return max(waiting)
        if net.order == "least":
            return min(waiting, key=lambda n: (letter_places(net.books[n]), unknown_places(net.books[n]), n))
        return waiting[net.order[net.looks % len(net.order)] % len(waiting)]

    def test_each_kind(self):
        for order in ORDERS:
            net = Net([one(*SHUT), one(*SMALL)], ONE, order)
            looks = []
            while not net.ended:
                due = self.due(net)
                self.assertEqual(net.advance(), due)
                looks.append(due)
                self.assertEqual(net.looks, len(looks))
            self.assertEqual(net.looked, tuple(looks))

    def test_forgotten_looks_count(self):
        net = Net([one(*SHUT)], ONE, [1, 0, 2])
        net.run(4)
        net.forget(net.looked[1])
        net.look_at(net.open_books[-1])
        net.forget(net.looked[0])
        self.assertEqual((net.looks, len(net.looked)), (5, 3))
        for _ in range(5):
            due = self.due(net)
            self.assertEqual(net.advance(), due)
        self.assertEqual(net.looks, 10)


class LookAtTest(unittest.TestCase):
    def test_look_at(self):
        net = Net([one(*SHUT), one(*SMALL)], ONE)
        self.assertIsNone(net.look_at(1))
        self.assertEqual((net.looked, net.looks), ((1,), 1))
        net.look_at(3)
        self.assertEqual((net.looked, net.looks), ((1, 3), 2))

    def test_the_order_of_the_errors(self):
        net = Net([one(*SHUT), one(*SMALL)], ONE, known=[one(*SMALL)])
        net.advance()
        for number in (-1, len(net), True, False, None, "0", (0,), 10 ** 9):
            self.assertEqual(caught(NoBook, net.look_at, number), (number,))
        self.assertEqual(caught(NotOpen, net.look_at, 0), (0,))
        self.assertEqual(caught(NotOpen, net.look_at, 1), (1,))
        shut, filled = run(*SHUT), run(*FILLED)
        for number in (-1, 0, None, True):
            self.assertEqual(caught(Ended, shut.look_at, number), ("shut",))
            self.assertEqual(caught(Ended, filled.look_at, number), ("filled",))
        self.assertEqual(caught(Ended, shut.advance), ("shut",))
        self.assertEqual(caught(Ended, filled.advance), ("filled",))

    def test_a_filled_net_with_open_books_has_ended(self):
        net = Net([EMPTY, one(*SHUT)], ONE)
        self.assertEqual(caught(Ended, net.look_at, 1), ("filled",))
        self.assertEqual(caught(Ended, net.advance), ("filled",))


class TooFullTest(unittest.TestCase):
    def state(self, net):
        return (net.books, net.open_books, net.looked, net.looks, net.verdict, net.rooted,
                [net.way_to(number) for number in range(len(net))])

    def test_exactly_at_the_look_that_lists_too_many(self):
        whole = Net([one(*SHUT)], ONE)
        counts = [1]
        while not whole.ended:
            whole.advance()
            counts.append(len(whole))
        for room in range(1, 30):
            net = Net([one(*SHUT)], ONE, room=room)
            done = [many for many in counts if many <= room]
            if len(done) == len(counts):
                self.assertEqual(net.run(100), len(counts) - 1)
                self.assertEqual(net.verdict, "shut")
                continue
            for _ in range(len(done) - 1):
                net.advance()
            state = self.state(net)
            self.assertEqual(caught(TooFull, net.advance), (net.open_books,))
            self.assertEqual(caught(TooFull, net.look_at, net.open_books[0]), (net.open_books,))
            self.assertEqual(self.state(net), state)

    def test_a_book_that_is_listed_already_needs_no_room(self):
        net = Net([one("aX=Xb")], ONE, room=1)
        net.run(5)
        self.assertEqual(net.verdict, "shut")
        self.assertEqual(len(net), 1)

    def test_through_run(self):
        net = Net([one(*SHUT)], ONE, room=10)
        waiting, = caught(TooFull, net.run, 100)
        self.assertEqual(waiting, net.open_books)
        self.assertGreater(net.looks, 0)
        self.assertEqual(list(waiting), sorted(waiting))

    def test_another_book_may_have_room(self):
        net = Net([one(*SHUT), one("aX=Xb")], ONE, room=2)
        caught(TooFull, net.advance)
        net.look_at(1)
        self.assertEqual(net.looked, (1,))


class RunTest(unittest.TestCase):
    def test_steps(self):
        net = Net([one(*SHUT)], ONE)
        self.assertEqual(net.run(0), 0)
        self.assertEqual(net.looks, 0)
        self.assertEqual(net.run(3), 3)
        self.assertEqual(net.looks, 3)
        self.assertEqual(net.run(1000), 24)
        self.assertEqual(net.run(5), 0)
        self.assertEqual(run(*FILLED).run(4), 0)


class ForgetTest(unittest.TestCase):
    def test_forget_a_looked_book(self):
        net = Net([one(*SHUT)], ONE)
        net.run(5)
        books, looked = net.books, net.looked
        ways = [net.way_to(number) for number in range(len(net))]
        self.assertIsNone(net.forget(looked[2]))
        self.assertEqual(net.books, books)
        self.assertEqual(net.looked, looked[:2] + looked[3:])
        self.assertIn(looked[2], net.open_books)
        self.assertEqual([net.way_to(number) for number in range(len(net))], ways)
        self.assertEqual(net.looks, 5)
        # Looked at again, it lists nothing, and the last look counts.
        net.look_at(looked[2])
        self.assertEqual((net.books, net.looked, net.looks), (books, looked[:2] + looked[3:] + (looked[2],), 6))

    def test_forget_at_a_shut_net(self):
        net = run(*SHUT)
        outcomes = net.outcomes_at(4)
        net.forget(4)
        self.assertEqual((net.verdict, net.open_books), ("going", (4,)))
        self.assertEqual(caught(NotLooked, net.outcomes_at, 4), (4,))
        self.assertEqual(net.run(10), 1)
        self.assertEqual(net.verdict, "shut")
        self.assertEqual(net.outcomes_at(4), outcomes)

    def test_errors(self):
        filled = run(*FILLED)
        for number in (0, -1, None, filled.filled):
            self.assertEqual(caught(Ended, filled.forget, number), ("filled",))
        net = Net([one(*SHUT), one(*SMALL)], ONE, known=[one(*SMALL)])
        net.advance()
        for number in (-1, len(net), True, False, None, "0", (0,)):
            self.assertEqual(caught(NoBook, net.forget, number), (number,))
            self.assertEqual(caught(NoBook, net.outcomes_at, number), (number,))
            self.assertEqual(caught(NoBook, net.way_to, number), (number,))
        for number in (1, 2):
            self.assertEqual(caught(NotLooked, net.forget, number), (number,))
            self.assertEqual(caught(NotLooked, net.outcomes_at, number), (number,))
        net.forget(0)
        self.assertEqual(caught(NotLooked, net.forget, 0), (0,))


class WaysTest(unittest.TestCase):
    def test_ways_ascend_and_lead_to_the_book(self):
        for net in (run(*SHUT), run(*SHUT, order="last", backward=True), run("aXXY=XaXY", "XXYb=XYaX")):
            for number in range(len(net)):
                way = net.way_to(number)
                numbers = [ahead for ahead, _ in way] + [number]
                self.assertEqual(numbers, sorted(set(numbers)))
                self.assertIn(numbers[0], net.rooted)
                for (ahead, place), then in zip(way, numbers[1:]):
                    self.assertEqual(net.outcomes_at(ahead)[place][1], then)

    def test_ways_of_a_long_row_of_books(self):
        net = Net([one(*SHUT)], ONE, "last")
        net.run(1000)
        self.assertGreater(max(len(net.way_to(number)) for number in range(len(net))), 3)


if __name__ == "__main__":
    unittest.main()

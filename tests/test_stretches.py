import random
import unittest
from fractions import Fraction
from math import comb, gcd

import polys
import reference
from checks import Checks
from drawnturns.forms import best_at, cell_form
from drawnturns.stretches import stretches

CELLS = [("cell", cell) for cell in range(10)]
# By it each of the first three cells weighs 4 * p * (1 - p), which is 1 at 1 / 2 and less elsewhere.
BENT = ("times", ("number", 2), ("y", 2))


def number(told):
    """A score of which any board is worth what is told, also beyond the greatest number."""
    if abs(told) <= 10 ** 6:
        return ("number", told)
    whole, rest = divmod(told, 10 ** 6)
    return ("sum", ("times", ("number", 10 ** 6), ("number", whole)), ("number", rest))


def by_count(cells, worths, low, high):
    """The score by worths at the place that tells how many of the cells A has, from low on, but fewer than high."""
    if high - low == 1:
        return ("number", worths[low])
    half = (low + high) // 2
    more = ("sum", *cells, ("number", 1 - half))
    return ("if", more, by_count(cells, worths, half, high), by_count(cells, worths, low, half))


def duel(worths, other, times=1):
    """A score by which the cells 0 and 1 are best by turns: 0 weighs times as much as worths tell, 1 as other."""
    cells = CELLS[2:len(worths) + 1]
    # So much that the cells that are counted weigh less.
    more = 100 * times * abs(worths[0])
    return (
        "sum", ("times", ("times", CELLS[0], ("number", times)), by_count(cells, worths, 0, len(worths))),
        ("times", CELLS[0], number(more)), ("times", CELLS[1], number(more + other)),
    )


def wave(turns):
    """Worths of counts by which a cell's weight goes up and down between the first one's size and its opposite."""
    told = [Fraction((-1) ** (turns - k) * comb(2 * turns, 2 * k), comb(turns, k)) for k in range(turns + 1)]
    below = 1
    for worth in told:
        below = below * worth.denominator // gcd(below, worth.denominator)
    return [int(worth * below) for worth in told]


class TestStretches(Checks, unittest.TestCase):
    def check(self, many, score):
        """stretches is as told; the tuple of their cells comes back."""
        self.assertIsNone(reference.score_error(many, score))
        told = stretches(many, score)
        forms = [cell_form(many, score, cell) for cell in range(many)]
        points = []
        self.assertIs(type(told), tuple)
        for pair in told:
            self.assertEqual([type(part) for part in pair + pair[0]], [tuple, tuple, int, int])
            (above, below), cells = pair
            self.assertTrue(0 < above < below < 10 ** 4000 and gcd(above, below) == 1)
            points.append(Fraction(above, below))
            self.assert_same(cells, polys.greatest_cells(forms, points[-1]))
            self.assert_same(best_at(many, score, pair[0]), cells)
        self.assertEqual(points, sorted(set(points)))
        self.assertTrue(all(one[1] != other[1] for one, other in zip(told, told[1:])))
        found = [cells for _, cells in told]
        self.assertEqual(found, polys.greatest_in_turn(forms))
        self.assertLessEqual(len(told), 1 + len(polys.meeting_spots(forms)))
        self.assert_same(stretches(many, score), told)
        return found

    def test_drawn_scores(self):
        counts = set()
        for many in (1, 2, 3, 4, 5):
            for score in reference.drawn_scores(301 + many, many, 3, 25):
                counts.add(len(self.check(many, score)))
        self.assertLessEqual({1, 2}, counts)

    def test_drawn_scores_of_more_cells(self):
        for many in (7, 10):
            for score in reference.drawn_scores(311 + many, many, 3, 6):
                self.check(many, score)

    def test_drawn_sums_of_products(self):
        chooser = random.Random(312)
        counts = set()
        for _ in range(60):
            many = chooser.choice((3, 4, 5))
            parts = []
            for _ in range(chooser.randrange(1, 9)):
                cells = chooser.sample(CELLS[:many], chooser.randrange(1, many + 1))
                parts.append(("times", ("number", chooser.randint(-9, 9)), ("least", *cells)))
            counts.add(len(self.check(many, ("sum", *parts))))
        self.assertLessEqual({1, 2}, counts)

    def test_one_stretch_alone(self):
        for many in (1, 2, 3, 10):
            every = tuple(range(many))
            self.assert_same(self.check(many, ("number", 7)), [every])
            self.assert_same(self.check(many, ("sum", *CELLS[:many])), [every])
            self.assert_same(self.check(many, ("least", *CELLS[:many])), [every])
            self.assert_same(self.check(many, CELLS[many - 1]), [(many - 1,)])
        self.assert_same(self.check(2, ("not", CELLS[0])), [(1,)])
        self.assert_same(self.check(4, ("hex", 2, 2)), [(1, 2)])
        self.assert_same(self.check(10, ("y", 4)), [(4,)])

    def test_they_part_at_fractions(self):
        for times, cells in ((2, [(2,), (0, 1)]), (3, [(2,), (0, 1)]), (1, [(2,)]), (10 ** 6, [(2,), (0, 1)])):
            score = ("sum", ("times", ("number", times), ("least", CELLS[0], CELLS[1])), CELLS[2])
            self.assert_same(self.check(3, score), cells)

    def test_they_part_at_points_that_are_no_fractions(self):
        for times in (2, 3, 5, 7):
            for power in (3, 4, 5):
                one = ("times", ("number", times), ("least", *CELLS[:power]))
                told = stretches(power + 1, ("sum", one, CELLS[power]))
                self.assert_same([cells for _, cells in told], [(power,), tuple(range(power))])
                # They part where times * p ** (power - 1) is 1.
                low, high = [times * Fraction(*fraction) ** (power - 1) for fraction, _ in told]
                self.assertTrue(low < 1 < high)
                self.check(power + 1, ("sum", one, CELLS[power]))

    def test_weights_that_touch_and_do_not_cross(self):
        self.assert_same(self.check(4, ("sum", BENT, CELLS[3])), [(3,)])
        self.assert_same(best_at(4, ("sum", BENT, CELLS[3]), (1, 2)), (0, 1, 2, 3))
        # The cell 0 weighs 2 * p * p + 2 * (1 - p) * (1 - p), which is 1 at 1 / 2 and more elsewhere; 1 weighs 1.
        bent = ("sum", ("times", CELLS[0], ("sum", ("times", ("not", CELLS[2]), ("not", CELLS[3])),
                                            ("times", CELLS[2], CELLS[3]))), CELLS[1])
        more = ("sum", ("times", ("number", 2), bent), ("times", ("number", -1), CELLS[1]))
        self.assert_same(self.check(4, more), [(0,)])
        self.assert_same(best_at(4, more, (1, 2)), (0, 1))

    def test_points_near_together(self):
        for times in (2, 1000, 10 ** 6, 10 ** 9, 10 ** 11):
            for other, cells in (
                (times - 1, [(3,), (0, 1, 2), (3,)]), (times, [(3,)]), (times + 1, [(3,)]),
            ):
                score = ("sum", ("times", number(times), BENT), ("times", number(other), CELLS[3]))
                self.assert_same(self.check(4, score), cells)

    def test_three_cells_by_turns_near_together(self):
        # The first one weighs 2 / 5 of other, the next ones other times p, the last ones a bit less than 5 / 2 p p.
        for other, last in ((10 ** 4, 24900), (10 ** 6, 2499999), (10 ** 9, 2499999999)):
            score = ("sum", ("times", number(2 * other // 5), CELLS[0]),
                     ("times", number(other), ("least", *CELLS[1:3])), ("times", number(last), ("least", *CELLS[3:6])))
            self.assert_same(self.check(6, score), [(0,), (1, 2), (3, 4, 5)])

    def test_points_near_the_ends(self):
        for times in (2, 10 ** 6, 10 ** 9, 10 ** 11):
            weak = ("times", number(times), ("least", CELLS[0], CELLS[1]))
            self.assert_same(self.check(3, ("sum", weak, CELLS[2])), [(2,), (0, 1)])
            turned = ("times", number(-times), ("not", ("greatest", CELLS[0], CELLS[1])))
            self.assert_same(self.check(3, ("sum", turned, CELLS[2])), [(0, 1), (2,)])

    def test_three_cells_change_at_one_point(self):
        # They weigh 1, 2 p, 4 p p: all the same at 1 / 2.
        score = ("sum", CELLS[0], ("times", ("number", 2), ("least", CELLS[1], CELLS[2])),
                 ("times", ("number", 4), ("least", CELLS[3], CELLS[4], CELLS[5])))
        self.assert_same(self.check(6, score), [(0,), (3, 4, 5)])
        self.assert_same(best_at(6, score, (1, 2)), (0, 1, 2, 3, 4, 5))
        # At a point that is no fraction: 1, 2 p p and 4 p ** 4.
        score = ("sum", CELLS[0], ("times", ("number", 2), ("least", *CELLS[1:4])),
                 ("times", ("number", 4), ("least", *CELLS[4:9])))
        self.assert_same(self.check(9, score), [(0,), (4, 5, 6, 7, 8)])

    def test_many_stretches(self):
        for turns in (1, 2, 3, 5, 7, 8):
            worths = wave(turns)
            top, first = abs(worths[0]), (turns % 2)
            for other in (0, top // 2, top - 1, 1 - top):
                cells = self.check(turns + 2, duel(worths, other))
                self.assert_same(cells, [((first + place) % 2,) for place in range(turns + 1)])
            # At the top they touch alone.
            self.assert_same(self.check(turns + 2, duel(worths, top)), [(1,)])
            self.assert_same(self.check(turns + 2, duel(worths, -top)), [(0,)])

    def test_many_stretches_some_of_them_short(self):
        for times in (10 ** 4, 10 ** 6):
            top = wave(8)[0] * times
            for other in (top - 1, 1 - top):
                self.assert_same(self.check(10, duel(wave(8), other, times)), [(place % 2,) for place in range(9)])

    def test_points_outside_do_not_count(self):
        # 2 - p, 1 + p, 3 p - 1: the same at 1 / 2; the last two at 1, where nothing is told any more.
        falling = ("sum", CELLS[0], ("times", CELLS[0], ("not", CELLS[3])))
        rising = ("sum", CELLS[1], ("times", CELLS[1], CELLS[4]))
        self.assert_same(self.check(5, ("sum", falling, rising)), [(0,), (1,)])
        self.assert_same(self.check(5, ("sum", rising, ("times", CELLS[2], ("times", ("number", 2), CELLS[4])))),
                         [(1,), (4,)])

    def test_greatest_worths(self):
        most = ("times", ("number", 10 ** 6), ("number", 10 ** 6))
        self.assert_same(self.check(10, ("if", ("y", 4), most, ("number", 0))), [(4,)])
        self.check(10, ("times", ("times", ("number", 10 ** 6), ("number", -10 ** 6)), ("hex", 2, 5)))

    def test_by_names(self):
        self.assert_same([cells for _, cells in stretches(score=CELLS[1], many=2)], [(1,)])


if __name__ == "__main__":
    unittest.main()

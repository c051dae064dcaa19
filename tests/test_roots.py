import random
import unittest
from fractions import Fraction

import polys
from checks import Checks
from drawnturns.roots import parted

GREAT = 10 ** 18


def with_roots(roots):
    """The form of least coefficients that is 0 at these fractions (number, below)."""
    found = (1,)
    for number, below in roots:
        found = polys.times(found, (-number, below))
    return found


def waves(most):
    """Forms that go up and down between 1 and -1: the one at each place is 0 as often as the place tells."""
    found = [(1,), (1, -2)]
    while len(found) <= most:
        found.append(polys.minus(polys.times((2, -4), found[-1]), found[-2]))
    return found


class TestParted(Checks, unittest.TestCase):
    def check(self, form, wanted):
        """form, which is not (), is 0 at so many points; in whichever way it is parted into two forms."""
        self.assertTrue(all(abs(a) <= GREAT for a in form) and len(form) <= 11)
        ones = [(), (1,), (0, 3, -2), tuple(range(-5, 6)), tuple(a // 2 for a in form)]
        for one in ones:
            one = polys.cut(one)
            other = polys.minus(one, form)
            self.assert_same(parted(one, other), wanted)
            self.assert_same(parted(other, one), wanted)

    def test_the_same_form(self):
        for form in ((), (1,), (0, 1), (-3, 0, 2), (GREAT,) * 11, tuple(range(1, 12)), (0,) * 10 + (-GREAT,)):
            self.assertIsNone(parted(form, form))
            self.assertIsNone(parted(one=form, other=tuple(list(form))))

    def test_no_point_at_all(self):
        for form in ((1,), (-7,), (1, 1), (-1, -3, -2), (1, 0, 1), (2, -1), (1, -1, 1), (3, -4, 2), (GREAT, 0, -1),
                     (5, -1, -1, -1, -1), (1, -2, 2), (-1, 0, 0, 0, 0, 0, 0, 0, 0, 0, -GREAT)):
            self.check(form, 0)

    def test_points_at_the_ends_do_not_count(self):
        for form in ((0, 1), (0, 0, 5), (1, -1), (1, -2, 1), (0, 1, -1), (0, 0, 1, -2, 1), (0, -1, 1), (0,) * 10 + (1,),
                     polys.times((0, 0, 0, 1), with_roots([(1, 1)] * 7)), with_roots([(1, 1)] * 10)):
            self.check(form, 0)
            inside = polys.times(form, (-1, 3))
            if len(inside) <= 11:
                self.check(inside, 1)

    def test_points_outside_do_not_count(self):
        for root in ((2, 1), (-1, 1), (-1, 3), (4, 3), (101, 100), (-1, 10 ** 6), (10 ** 6 + 1, 10 ** 6)):
            self.check(with_roots([root]), 0)
            self.check(with_roots([root, root]), 0)
            self.check(with_roots([root, (1, 2)]), 1)
            self.check(polys.times((-1,), with_roots([root, (1, 2), root])), 1)

    def test_one_point(self):
        for root in ((1, 2), (1, 3), (2, 3), (1, 100), (99, 100), (1, 10 ** 6), (10 ** 6 - 1, 10 ** 6), (1, GREAT)):
            self.check(with_roots([root]), 1)
            self.check(tuple(-a for a in with_roots([root])), 1)

    def test_points_that_touch_count_once(self):
        for times in range(1, 11):
            self.check(with_roots([(1, 2)] * times), 1)
            self.check(polys.times((-2,), with_roots([(1, 2)] * times)), 1)
        self.check(with_roots([(1, 3), (1, 3), (2, 3), (2, 3), (2, 3)]), 2)
        self.check(with_roots([(1, 2), (1, 2), (1, 3), (0, 1), (0, 1), (1, 1), (1, 1), (5, 1)]), 2)
        self.check(polys.times((1, 0, 1), with_roots([(3, 4)] * 4)), 1)

    def test_points_that_are_no_fractions(self):
        root_of_half, golden = (-1, 0, 2), (-1, 1, 1)
        self.check(root_of_half, 1)
        self.check(golden, 1)
        self.check(polys.times(root_of_half, root_of_half), 1)
        self.check(polys.times(root_of_half, golden), 2)
        self.check(polys.times(polys.times(root_of_half, root_of_half), with_roots([(7, 10), (71, 100)])), 3)
        self.check((-1, 0, 0, 3), 1)
        self.check((1, -5, 5), 2)

    def test_points_near_to_one_another(self):
        for below in (100, 10 ** 4, 10 ** 8):
            self.check(with_roots([(1, below), (2, below)]), 2)
            self.check(with_roots([(below // 2, below), (below // 2 + 1, below)]), 2)
            self.check(with_roots([(below - 1, below), (below - 2, below)]), 2)
        self.check(with_roots([(below, 1000) for below in (500, 501, 502, 503, 504)]), 5)
        # (p - 1/2)^2 a little above 0, at 0, and a little below it.
        square = (10 ** 17, -4 * 10 ** 17, 4 * 10 ** 17)
        for more, wanted in ((1, 0), (0, 1), (-1, 2)):
            self.check(polys.plus(square, (more,)), wanted)

    def test_as_many_points_as_there_can_be(self):
        for many in range(1, 11):
            roots = [(place + 1, many + 1) for place in range(many)]
            form = with_roots(roots)
            if max(abs(a) for a in form) <= GREAT:
                self.check(form, many)
        for many, wave in enumerate(waves(8)):
            self.check(wave, many)

    def test_bent_waves_beside_descartes_rule(self):
        chooser = random.Random(175)
        counts = set()
        for wave in waves(8)[3:]:
            for bend in (10 ** 3, 5 * 10 ** 5, 10 ** 6, 3 * 10 ** 6):
                for _ in range(5):
                    noise = polys.cut([chooser.randint(-bend, bend) for _ in range(chooser.randrange(1, 5))])
                    form = polys.plus(polys.times((10 ** 6,), wave), noise)
                    wanted = polys.count_roots(form)
                    counts.add(wanted)
                    self.assert_same(parted(form, ()), wanted)
        self.assertLessEqual({1, 2, 3, 4, 5, 6, 7, 8}, counts)

    def test_drawn_roots(self):
        chooser = random.Random(171)
        for _ in range(150):
            roots = [chooser.choice(((0, 1), (1, 1), (1, 2), (1, 3), (2, 3), (1, 7), (3, 2), (-1, 2), (5, 1)))
                     for _ in range(chooser.randrange(9))]
            form = with_roots(roots)
            if chooser.randrange(2):
                form = polys.times(form, (1, -1, 1))
            inside = {root for root in roots if 0 < Fraction(*root) < 1}
            self.check(form, len(inside))

    def test_drawn_forms_beside_descartes_rule(self):
        chooser = random.Random(172)
        counts = set()
        for great in (1, 2, 5, 100, GREAT):
            for _ in range(80):
                form = polys.cut([chooser.randint(-great, great) for _ in range(chooser.randrange(1, 12))])
                if form:
                    wanted = polys.count_roots(form)
                    counts.add(wanted)
                    self.assert_same(parted(form, ()), wanted)
                    self.assert_same(parted((), form), wanted)
        self.assertLessEqual({0, 1, 2}, counts)

    def test_drawn_pairs_of_great_forms(self):
        chooser = random.Random(173)
        for _ in range(60):
            one, other = [polys.cut([chooser.randint(-GREAT, GREAT) for _ in range(11)]) for _ in range(2)]
            self.assert_same(parted(one, other), polys.count_roots(polys.minus(one, other)))

    def test_squares_and_cubes_beside_descartes_rule(self):
        chooser = random.Random(174)
        for _ in range(60):
            base = polys.cut([chooser.randint(-4, 4) for _ in range(4)])
            if base:
                for form in (polys.times(base, base), polys.times(base, polys.times(base, base))):
                    self.assert_same(parted(form, ()), polys.count_roots(form))

    def test_by_names(self):
        self.assert_same(parted(other=(1,), one=(0, 2)), 1)


if __name__ == "__main__":
    unittest.main()

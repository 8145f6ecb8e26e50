import unittest

from layerink.errors import BadArrow, BadWeb
from layerink.rings import knots, ring, turned
from samples import BAD_WEBS, GOOD_WEBS, HUGE, mixed_webs, small_webs, web_of


def every_web():
    yield from GOOD_WEBS.values()
    yield from small_webs()
    yield from mixed_webs()


def reached(pairs, start):
    """The boxes to which one can go along the pairs, by letting a set grow."""
    found = {start}
    while True:
        more = {other for one, other in pairs if one in found} - found
        if not more:
            return found
        found |= more


def turned_by_words(web):
    """The turned arrows as the document words them."""
    kept, some = [], []
    for place, (one, other, _, _) in enumerate(web[1]):
        if one == other:
            continue
        if one in reached(kept, other):
            some.append(place)
        else:
            kept.append((one, other))
    return some


def has_ring(pairs):
    """Whether boxes are left when those without an arrow to them go, again and again."""
    left = [(one, other) for one, other in pairs if one != other]
    while left:
        ends = {other for _, other in left}
        fewer = [(one, other) for one, other in left if one in ends]
        if len(fewer) == len(left):
            return True
        left = fewer
    return False


def knots_by_words(web):
    pairs = [arrow[:2] for arrow in web[1]]
    reach = [reached(pairs, box) for box in range(len(web[0]))]
    told = []
    for box in range(len(web[0])):
        knot = sorted(mate for mate in reach[box] if box in reach[mate])
        if knot not in told:
            told.append(knot)
    return told


class Turned(unittest.TestCase):
    def check(self, count, pairs, places):
        told = turned(web_of(count, pairs))
        self.assertEqual(told, places)
        self.assertIsInstance(told, list)

    def test_without_arrows(self):
        self.check(0, [], [])
        self.check(5, [], [])

    def test_loops_alone(self):
        self.check(1, [(0, 0)], [])
        self.check(3, [(0, 0), (1, 1), (0, 0), (2, 2)], [])

    def test_there_and_back(self):
        self.check(2, [(0, 1), (1, 0)], [1])
        self.check(2, [(1, 0), (0, 1)], [1])

    def test_doubled_arrows(self):
        self.check(2, [(0, 1), (0, 1)], [])
        self.check(2, [(0, 1), (0, 1), (1, 0), (1, 0), (0, 1)], [2, 3])

    def test_turned_arrows_make_no_ring_later(self):
        self.check(3, [(0, 1), (1, 0), (1, 2), (0, 2), (2, 1)], [1, 4])
        self.check(3, [(0, 1), (1, 0), (2, 0), (1, 2)], [1, 3])
        self.check(3, [(1, 2), (2, 1), (0, 2), (1, 0)], [1])

    def test_ring_of_several_boxes(self):
        self.check(4, [(0, 1), (1, 2), (2, 3), (3, 0)], [3])
        self.check(4, [(3, 0), (2, 3), (1, 2), (0, 1)], [3])
        self.check(40, [(box, (box + 1) % 40) for box in range(40)], [39])

    def test_rings_that_share_a_box(self):
        self.check(5, [(0, 1), (1, 2), (2, 0), (2, 3), (3, 4), (4, 2)], [2, 5])

    def test_rings_that_share_an_arrow(self):
        self.check(4, [(0, 1), (1, 2), (2, 0), (1, 3), (3, 0)], [2, 4])
        self.check(4, [(1, 2), (2, 0), (1, 3), (3, 0), (0, 1)], [4])

    def test_loops_between(self):
        self.check(2, [(0, 0), (0, 1), (1, 1), (1, 0), (0, 0)], [3])

    def test_sayings_do_not_matter(self):
        self.assertEqual(turned(web_of(2, [(0, 1)], [(1, 0, 1)])), [])
        self.assertEqual(turned(web_of(2, [(1, 0), (0, 1)], [(1, 0, 1)])), [1])

    def test_by_name(self):
        self.assertEqual(turned(web=web_of(2, [(0, 1), (1, 0)])), [1])

    def test_as_worded(self):
        for web in every_web():
            self.assertEqual(turned(web), turned_by_words(web), web)

    def test_no_ring_is_left(self):
        for web in every_web():
            some = turned(web)
            self.assertEqual(some, sorted(set(some)))
            pairs = [arrow[:2] for arrow in web[1]]
            self.assertFalse(has_ring([pair for place, pair in enumerate(pairs) if place not in some]))
            self.assertFalse(has_ring([pair[::-1] if place in some else pair for place, pair in enumerate(pairs)]))

    def test_bad_web(self):
        for label, web in BAD_WEBS.items():
            with self.subTest(label):
                self.assertRaises(BadWeb, turned, web)


class Ring(unittest.TestCase):
    def walk(self, web, place, some):
        """Go along a turned arrow's ring and look at all that is promised of it."""
        told = ring(web, place)
        self.assertIsInstance(told, list)
        self.assertEqual(told[0], place)
        self.assertFalse(set(told[1:]) & set(some))
        steps = [web[1][arrow][:2] for arrow in told]
        begins = [one for one, _ in steps]
        ends = [other for _, other in steps]
        self.assertEqual(begins, ends[-1:] + ends[:-1])
        self.assertEqual(len(set(begins)), len(begins))
        self.assertGreater(len(told), 1)

    def test_only_one_ring(self):
        self.assertEqual(ring(web_of(2, [(0, 1), (1, 0)]), 1), [1, 0])
        self.assertEqual(ring(web_of(3, [(1, 2), (0, 1), (2, 0)]), 2), [2, 1, 0])
        self.assertEqual(ring(web_of(3, [(0, 0), (0, 1), (1, 1), (1, 0), (0, 2)]), 3), [3, 1])
        around = [(box, (box + 1) % 40) for box in range(40)]
        self.assertEqual(ring(web_of(40, around), 39), [39] + list(range(39)))

    def test_rings_that_share_arrows(self):
        web = web_of(4, [(0, 1), (1, 2), (2, 0), (1, 3), (3, 0)])
        self.assertEqual(ring(web, 2), [2, 0, 1])
        self.assertEqual(ring(web, 4), [4, 0, 3])

    def test_each_turned_arrow(self):
        for web in every_web():
            some = turned(web)
            for place in some:
                self.walk(web, place, some)

    def test_not_turned(self):
        for web in every_web():
            some = turned(web)
            for place in range(len(web[1])):
                if place not in some:
                    self.assertRaises(BadArrow, ring, web, place)

    def test_loop(self):
        web = web_of(2, [(0, 1), (1, 0), (1, 1)])
        self.assertRaises(BadArrow, ring, web, 2)

    def test_no_such_place(self):
        web = web_of(2, [(0, 1), (1, 0)])
        for place in [-1, -2, 2, 3, HUGE, -HUGE]:
            self.assertRaises(BadArrow, ring, web, place)
        self.assertRaises(BadArrow, ring, ((), (), ()), 0)

    def test_by_name(self):
        self.assertEqual(ring(arrow=1, web=web_of(2, [(0, 1), (1, 0)])), [1, 0])

    def test_bad_web_ahead_of_bad_arrow(self):
        for label, web in BAD_WEBS.items():
            for place in [0, 1, -1, HUGE, -HUGE]:
                with self.subTest(label, place=place):
                    self.assertRaises(BadWeb, ring, web, place)


class Knots(unittest.TestCase):
    def check(self, count, pairs, lists):
        told = knots(web_of(count, pairs))
        self.assertEqual(told, lists)
        self.assertEqual([type(knot) for knot in told], [list] * len(lists))

    def test_without_arrows(self):
        self.assertEqual(knots(((), (), ())), [])
        self.check(3, [], [[0], [1], [2]])

    def test_loops(self):
        self.check(2, [(0, 0), (1, 1), (1, 1)], [[0], [1]])

    def test_rings(self):
        self.check(2, [(0, 1), (1, 0)], [[0, 1]])
        self.check(5, [(4, 0), (0, 2), (2, 4), (3, 1)], [[0, 2, 4], [1], [3]])
        self.check(40, [(box, (box + 1) % 40) for box in range(40)], [list(range(40))])

    def test_rings_that_share_a_box(self):
        self.check(5, [(0, 3), (3, 0), (3, 4), (4, 3)], [[0, 3, 4], [1], [2]])

    def test_one_way_between(self):
        self.check(3, [(0, 1), (1, 2)], [[0], [1], [2]])
        self.check(4, [(3, 0), (0, 3), (3, 1), (1, 2), (2, 1), (0, 2)], [[0, 3], [1, 2]])

    def test_sayings_do_not_matter(self):
        self.assertEqual(knots(web_of(2, [(0, 1)], [(1, 0, 1)])), [[0], [1]])

    def test_turned_arrows_count_as_they_point(self):
        self.check(3, [(0, 1), (1, 2), (2, 0)], [[0, 1, 2]])

    def test_by_name(self):
        self.assertEqual(knots(web=web_of(1, [])), [[0]])

    def test_as_worded(self):
        for web in every_web():
            told = knots(web)
            self.assertEqual(told, knots_by_words(web), web)
            self.assertEqual(sorted(box for knot in told for box in knot), list(range(len(web[0]))))

    def test_bad_web(self):
        for label, web in BAD_WEBS.items():
            with self.subTest(label):
                self.assertRaises(BadWeb, knots, web)


class ToldLists(unittest.TestCase):
    WEB = web_of(4, [(0, 1), (1, 0), (1, 2), (2, 0), (3, 3)])

    def ask(self):
        return [turned(self.WEB), ring(self.WEB, 1), ring(self.WEB, 3), knots(self.WEB)]

    def test_changed_later(self):
        before = self.ask()
        for told in self.ask():
            told.append(99)
            told[0] = -5
        for knot in knots(self.WEB):
            knot.append(98)
        self.assertEqual(self.ask(), before)
        self.assertEqual(before, [[1, 3], [1, 0], [3, 0, 2], [[0, 1, 2], [3]]])

    def test_the_same_each_time(self):
        for web in mixed_webs():
            copy = tuple(tuple(part) for part in web)
            some = turned(web)
            rings = [ring(web, place) for place in some]
            lists = knots(web)
            self.assertEqual(turned(copy), some)
            self.assertEqual([ring(copy, place) for place in some], rings)
            self.assertEqual(knots(copy), lists)


if __name__ == "__main__":
    unittest.main()

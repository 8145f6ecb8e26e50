import unittest

from layerink.errors import BadArrow, BadWeb
from layerink.webs import boxes_of, is_web, without
from samples import BAD_WEBS, GOOD_WEBS, HUGE, NAMES, web_of


class IsWeb(unittest.TestCase):
    def check(self, web, truth):
        for _ in range(2):
            self.assertIs(is_web(web), truth)

    def test_good_webs(self):
        for label, web in GOOD_WEBS.items():
            with self.subTest(label):
                self.check(web, True)

    def test_others(self):
        for label, web in BAD_WEBS.items():
            with self.subTest(label):
                self.check(web, False)

    def test_each_least_and_weight_of_an_arrow(self):
        for least in range(-12, 13):
            for weight in range(-12, 13):
                web = (("a",), ((0, 0, least, weight),), ())
                self.check(web, least in (1, 2, 3) and weight in tuple(range(1, 10)))

    def test_each_least_of_a_saying(self):
        for least in range(-30, 31):
            self.check(web_of(2, [], [(0, 1, least)]), -9 <= least <= 9)

    def test_each_box_of_an_arrow_or_a_saying(self):
        for one in range(-5, 6):
            for other in range(-5, 6):
                inside = one in (0, 1, 2) and other in (0, 1, 2)
                self.check(web_of(3, [(one, other)]), inside)
                self.check(web_of(3, [], [(one, other, 0)]), inside and one != other)

    def test_each_sign_in_a_name(self):
        for sign in map(chr, range(300)):
            self.check((("a" + sign,), (), ()), "a" <= sign <= "z")

    def test_counts(self):
        for count in range(45):
            self.check(web_of(count, []), count <= 40)
        for count in range(85):
            self.check(web_of(1, [(0, 0)] * count), count <= 80)
        for count in range(25):
            self.check(web_of(2, [], [(1, 0, 0)] * count), count <= 20)

    def test_a_fault_is_found_wherever_it_stands(self):
        for at in range(40):
            names = list(NAMES[:40])
            names[at] = names[at].upper()
            self.check((tuple(names), (), ()), False)
            names[at] = NAMES[(at + 1) % 40]
            self.check((tuple(names), (), ()), False)
        for at in range(80):
            arrows = [(0, 1, 1, 1)] * 80
            arrows[at] = (0, 2, 1, 1)
            self.check((("a", "b"), tuple(arrows), ()), False)
        for at in range(20):
            sayings = [(0, 1, 1)] * 20
            sayings[at] = (0, 0, 1)
            self.check((("a", "b"), (), tuple(sayings)), False)

    def test_by_name(self):
        self.assertIs(is_web(web=((), (), ())), True)


class BoxesOf(unittest.TestCase):
    def test_each_place(self):
        for label, web in GOOD_WEBS.items():
            for place, arrow in enumerate(web[1]):
                with self.subTest(label, place=place):
                    told = boxes_of(web, place)
                    self.assertEqual(told, (arrow[0], arrow[1]))
                    self.assertIsInstance(told, tuple)

    def test_loop(self):
        self.assertEqual(boxes_of(web_of(3, [(0, 1), (2, 2)]), 1), (2, 2))

    def test_by_name(self):
        self.assertEqual(boxes_of(arrow=0, web=web_of(2, [(1, 0)])), (1, 0))

    def test_no_such_place(self):
        for label, web in GOOD_WEBS.items():
            count = len(web[1])
            for place in [-1, -2, -count, -count - 1, -HUGE, count, count + 1, HUGE]:
                if not 0 <= place < count:
                    with self.subTest(label, place=place):
                        self.assertRaises(BadArrow, boxes_of, web, place)

    def test_bad_web(self):
        for label, web in BAD_WEBS.items():
            for place in [0, -1, 1, len(web[1]), HUGE, -HUGE]:
                with self.subTest(label, place=place):
                    self.assertRaises(BadWeb, boxes_of, web, place)


class Without(unittest.TestCase):
    WEB = (
        ("a", "b", "c"),
        ((0, 1, 1, 2), (1, 2, 3, 4), (1, 1, 2, 9), (0, 1, 1, 2)),
        ((0, 2, -3), (2, 1, 0)),
    )

    def check(self, places, left):
        handed = list(places)
        told = without(self.WEB, handed)
        self.assertEqual(told, (self.WEB[0], tuple(self.WEB[1][place] for place in left), self.WEB[2]))
        self.assertEqual([type(part) for part in told], [tuple] * 3)
        self.assertIsInstance(told, tuple)
        self.assertEqual(handed, list(places))
        self.assertIs(is_web(told), True)

    def test_no_places(self):
        self.check([], [0, 1, 2, 3])

    def test_some_places(self):
        self.check([0], [1, 2, 3])
        self.check([3], [0, 1, 2])
        self.check([2, 0], [1, 3])

    def test_doubled_places(self):
        self.check([1, 1, 3, 1], [0, 2])

    def test_places_that_are_none(self):
        self.check([-1, -4, 4, 5, HUGE, -HUGE], [0, 1, 2, 3])
        self.check([-1, 2, 4], [0, 1, 3])

    def test_all_places(self):
        self.check([0, 1, 2, 3], [])
        self.check([3, 2, 1, 0], [])
        self.check(list(range(-10, 10)), [])

    def test_web_without_arrows(self):
        web = (("a", "b"), (), ((0, 1, 2),))
        self.assertEqual(without(web, [0]), web)
        self.assertEqual(without(((), (), ()), []), ((), (), ()))

    def test_by_name(self):
        self.assertEqual(without(arrows=[0], web=web_of(2, [(0, 1), (1, 0)])), web_of(2, [(1, 0)]))

    def test_list_changed_later(self):
        handed = [0]
        told = without(self.WEB, handed)
        handed.append(1)
        self.assertEqual(told[1], self.WEB[1][1:])
        self.assertEqual(without(self.WEB, [0]), told)

    def test_bad_web(self):
        for label, web in BAD_WEBS.items():
            for places in [[], [0], [-1, HUGE], list(range(100))]:
                with self.subTest(label):
                    handed = list(places)
                    self.assertRaises(BadWeb, without, web, handed)
                    self.assertEqual(handed, places)


if __name__ == "__main__":
    unittest.main()

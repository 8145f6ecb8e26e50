import copy
import itertools
import random
import time
import unittest

from layerink.chains import chains, rows
from layerink.errors import BadWeb
from layerink.layers import layers
from layerink.orders import ordered
from layerink.pictures import picture, read_picture
from drawings import crossings_by_words, fewer_drawings, in_any_order
from layerings import random_arrows, roomy_layering
from samples import BAD_WEBS, NAMES, web_of
from signs import arrows_by_words, picture_by_words


def plain_picture(web, layering):
    return picture(web, layering, rows(web, layering))


class Picture(unittest.TestCase):
    def check(self, web, layering, *lines):
        told = plain_picture(web, layering)
        self.assertEqual(told, "\n".join(lines))
        self.assertEqual(read_picture(told), arrows_by_words(web))

    def test_no_boxes(self):
        self.check(((), (), ()), [], "")

    def test_one_box(self):
        self.check((("a",), (), ()), [0], "[a_]")
        self.check((("ab",), (), ()), [0], "[ab]")
        self.check((("abcdef",), (), ()), [0], "[abcdef]")

    def test_one_row_of_boxes(self):
        self.check((("a", "bb", "ccc"), (), ()), [0, 0, 0], "[a_]  [bb]  [ccc_]")

    def test_loops(self):
        self.check((("a",), ((0, 0, 1, 1),), ()), [0], "[a*]")
        self.check((("a",), ((0, 0, 1, 1),) * 2, ()), [0], "[a**_]")
        self.check((("v", "x"), ((1, 1, 1, 1),) * 3, ()), [0, 0], "[v_]  [x***]")

    def test_one_arrow_down(self):
        self.check(web_of(2, [(0, 1)]), [0, 1],
                   "[aa]",
                   "|",
                   "L7",
                   " v",
                   "[ab]")

    def test_from_the_second_box(self):
        self.check(web_of(2, [(1, 0)]), [1, 0],
                   "[ab]",
                   "|",
                   "L7",
                   " v",
                   "[aa]")

    def test_there_and_back(self):
        self.check(web_of(2, [(0, 1), (1, 0)]), [0, 1],
                   "[aa]",
                   "| ^",
                   "L7L7",
                   " v |",
                   "[ab]")

    def test_a_box_as_wide_as_its_arrows(self):
        self.check(web_of(2, [(0, 1)] * 3), [0, 1],
                   "[aa__]",
                   "| | |",
                   "L7L7L7",
                   " v v v",
                   "[ab__]")

    def test_a_single_file_with_bends(self):
        self.check(web_of(2, [(0, 1), (0, 1)]), [0, 2],
                   "[aa]",
                   "| |",
                   "L7L--7",
                   " |   |",
                   "FJ  FJ",
                   "|   |",
                   "L7 FJ",
                   " v v",
                   "[ab]")

    def test_heads_behind_bends(self):
        self.check(web_of(2, [(1, 0)]), [2, 0],
                   "[ab]",
                   "|",
                   "L7",
                   " |",
                   "FJ",
                   "|",
                   "L7",
                   " v",
                   "[aa]")
        self.check(web_of(2, [(0, 1), (1, 0)]), [0, 2],
                   "[aa]",
                   "| ^",
                   "L7L--7",
                   " |   |",
                   "FJ  FJ",
                   "|   |",
                   "L7 FJ",
                   " v |",
                   "[ab]")

    def test_two_that_cross(self):
        self.check(web_of(4, [(0, 3), (1, 2)]), [0, 0, 1, 1],
                   "[aa]  [ab]",
                   "|     |",
                   "L-----+7",
                   " F----J|",
                   " v     v",
                   "[ac]  [ad]")

    def test_layers_without_items(self):
        self.check(web_of(2, []), [1, 4], "", "[aa]", "", "", "[ab]")
        self.check(web_of(3, [(1, 2)]), [0, 2, 3],
                   "[aa]",
                   "",
                   "[ab]",
                   "|",
                   "L7",
                   " v",
                   "[ac]")

    def test_no_segment_between_two_rows(self):
        self.check(web_of(2, []), [0, 1], "[aa]", "[ab]")

    def test_as_worded(self):
        for web, layering, some, links in fewer_drawings():
            if len(web[0]) <= 25:
                told = picture(web, layering, some)
                self.assertEqual(told, picture_by_words(web, layering, some, links))

    def test_great_webs_as_worded(self):
        source = random.Random(41)
        for _ in range(2):
            web = (NAMES[:40], random_arrows(source, 40, 80), ())
            layering = layers(web)
            links = chains(web, layering)
            some = ordered(rows(web, layering), links)
            self.assertEqual(picture(web, layering, some), picture_by_words(web, layering, some, links))

    def test_signs(self):
        for web, layering, some, links in fewer_drawings():
            told = picture(web, layering, some)
            self.assertEqual(told.count("+"), crossings_by_words(some, links))
            self.assertFalse(any(line.endswith(" ") for line in told.split("\n")))
            self.assertRegex(told, r"\A[][a-z*_|^L7FJ+ \n-]*\Z")

    def test_heads(self):
        for web, layering, some, _ in itertools.islice(fewer_drawings(), 0, None, 3):
            told = picture(web, layering, some)
            ups = sum(layering[one] > layering[other] for one, other, _, _ in web[1])
            self.assertEqual(told.count("^"), ups)

    def test_bad_webs(self):
        for why, web in BAD_WEBS.items():
            with self.subTest(why), self.assertRaises(BadWeb):
                picture(web, [], [])
            with self.subTest(why), self.assertRaises(BadWeb):
                picture(rows=[[]], layering=[0] * len(web[0]), web=web)

    def test_handed_in(self):
        for web, layering, some, _ in itertools.islice(fewer_drawings(), 0, None, 4):
            before = copy.deepcopy((layering, some))
            told = picture(web, layering, some)
            self.assertEqual((layering, some), before)
            self.assertEqual(picture(rows=some, layering=layering, web=web), told)


class ReadPicture(unittest.TestCase):
    def test_no_boxes(self):
        self.assertEqual(read_picture(""), ([], []))

    def test_kinds(self):
        told = read_picture("[b_]  [a*]")
        self.assertEqual(told, (["a", "b"], [("a", "a")]))
        self.assertIs(type(told), tuple)
        self.assertEqual([type(some) for some in told], [list, list])
        self.assertEqual([type(pair) for pair in told[1]], [tuple])

    def test_rising(self):
        web = (("c", "a", "b"), ((0, 1, 1, 1), (2, 0, 1, 1), (0, 1, 1, 1), (0, 0, 1, 1), (1, 2, 1, 1)), ())
        told = read_picture(plain_picture(web, layers(web)))
        self.assertEqual(told, (["a", "b", "c"], [("a", "b"), ("b", "c"), ("c", "a"), ("c", "a"), ("c", "c")]))

    def test_names_with_signs_of_heads(self):
        web = (("v", "vv", "vvvvvv", "x"), ((0, 1, 1, 1), (1, 2, 1, 1), (2, 0, 1, 1), (3, 1, 1, 1), (2, 2, 1, 1)), ())
        layering = layers(web)
        for order in itertools.permutations(range(4)):
            some = [sorted(row, key=lambda item: order[item[1]]) for row in rows(web, layering)]
            self.assertEqual(read_picture(picture(web, layering, some)), arrows_by_words(web))

    def test_all_webs_of_three_boxes_and_two_arrows(self):
        pairs = list(itertools.product(range(3), repeat=2))
        for some in itertools.product(pairs, repeat=2):
            web = web_of(3, some)
            layering = layers(web)
            for spread in (1, 3):
                some = [layer * spread for layer in layering]
                for orders in itertools.product(*map(itertools.permutations, rows(web, some))):
                    told = picture(web, some, [list(row) for row in orders])
                    self.assertEqual(read_picture(told), arrows_by_words(web))

    def test_drawn_pictures(self):
        for web, layering, some, _ in fewer_drawings():
            told = picture(web, layering, some)
            self.assertEqual(read_picture(told), arrows_by_words(web))
            first = read_picture(text=told)
            first[0].clear()
            first[1].clear()
            self.assertEqual(read_picture(told), arrows_by_words(web))

    def test_forty_boxes(self):
        source = random.Random(42)
        for _ in range(5):
            web = (NAMES[:40], random_arrows(source, 40, 80), ())
            for layering in (layers(web), roomy_layering(source, web)):
                start = time.process_time()
                links = chains(web, layering)
                some = in_any_order(source, rows(web, layering))
                plain = picture(web, layering, some)
                told = picture(web, layering, ordered(some, links))
                self.assertEqual(read_picture(plain), arrows_by_words(web))
                self.assertEqual(read_picture(told), arrows_by_words(web))
                self.assertLess(time.process_time() - start, 10)


if __name__ == "__main__":
    unittest.main()

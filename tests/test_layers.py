import copy
import itertools
import random
import time
import unittest

from layerink.errors import BadWeb, Clash
from layerink.layers import clash, flow, layers, length, ties, worth
from layerink.rings import turned
from layerings import (
    balances, beside, is_clashing_ring, is_flow, keeps, length_of, lots, random_arrows, random_sayings,
    roomy_webs, ties_of, wild_webs, worth_of,
)
from samples import BAD_WEBS, GOOD_WEBS, HUGE, NAMES, full_web, mixed_webs, small_webs, web_of

NOTHING = ((), (), ())

# A loop, a doubled arrow, a turned one and two sayings.
KNOTTY = (
    ("a", "b", "c"),
    ((0, 1, 1, 2), (1, 1, 2, 3), (1, 2, 2, 4), (2, 0, 3, 5), (0, 1, 1, 2)),
    ((2, 0, -4), (0, 1, 0)),
)

CLASHING = {
    "two sayings": web_of(2, [], [(0, 1, 1), (1, 0, 0)]),
    "two sayings of far numbers": web_of(2, [], [(0, 1, 9), (1, 0, -8)]),
    "two sayings below an arrow's lot": web_of(4, [(0, 1)], [(2, 3, -2), (3, 2, 3)]),
    "unlike numbers there and back": web_of(3, [(0, 1)], [(1, 2, 2), (2, 1, -1)]),
    "an arrow and a saying": (("a", "b"), ((0, 1, 3, 1),), ((1, 0, -2),)),
    "an arrow and level boxes": web_of(2, [(0, 1)], [(0, 1, 0), (1, 0, 0)]),
    "a turned arrow and a saying": web_of(2, [(0, 1), (1, 0)], [(1, 0, 1)]),
    "only the turned arrow's least is too much": (("a", "b"), ((0, 1, 1, 1), (1, 0, 3, 1)), ((1, 0, -2),)),
    "three sayings": web_of(3, [], [(0, 1, 5), (1, 2, -2), (2, 0, -2)]),
    "arrows and sayings": web_of(5, [(0, 1), (2, 3), (4, 4)], [(1, 2, -9), (3, 4, 8), (4, 0, 0)]),
    "a long way down": web_of(40, [(box, box + 1) for box in range(39)], [(39, 0, -9)]),
    "a long way up": web_of(40, [(box + 1, box) for box in range(39)], [(0, 39, -9)]),
    "a ring of twenty sayings": web_of(20, [], [(box, (box + 1) % 20, 1 if box == 7 else 0) for box in range(20)]),
    "far ahead of what hangs on it": web_of(12, [(box, box + 1) for box in range(11)], [(0, 1, 9), (1, 0, -8)]),
    "two rings": web_of(4, [], [(0, 1, 1), (1, 0, 1), (2, 3, 1), (3, 2, 1)]),
}

NOT_CLASHING = {
    "level boxes": web_of(2, [], [(0, 1, 0), (1, 0, 0)]),
    "boxes two layers apart": web_of(2, [], [(0, 1, -2), (1, 0, 2)]),
    "an arrow and as much room": (("a", "b"), ((0, 1, 3, 1),), ((1, 0, -3),)),
    "there and back of arrows": web_of(2, [(0, 1), (1, 0)], [(1, 0, -1)]),
    "three sayings of sum 0": web_of(3, [], [(0, 1, 5), (1, 2, -3), (2, 0, -2)]),
    "a long way down with room": web_of(10, [(box, box + 1) for box in range(9)], [(9, 0, -9)]),
    "a ring of level boxes": web_of(20, [], [(box, (box + 1) % 20, 0) for box in range(20)]),
}


def clashing_webs():
    yield from CLASHING.values()
    for web in wild_webs():
        if clash(web) is not None:
            yield web


def peaceful_webs():
    yield from NOT_CLASHING.values()
    for label, web in GOOD_WEBS.items():
        if label != "full":
            yield web
    for web, _ in roomy_webs():
        yield web
    for web in wild_webs():
        if clash(web) is None:
            yield web


def other_way_about(web):
    names, arrows, sayings = web
    return (
        names,
        tuple((other, one, least, weight) for one, other, least, weight in arrows),
        tuple((other, one, least) for one, other, least in sayings),
    )


class Ties(unittest.TestCase):
    def test_loops_doubled_and_turned_arrows_and_sayings(self):
        self.assertEqual(ties(KNOTTY), [
            ("arrow", 0, 0, 1, 1, 2),
            ("arrow", 2, 1, 2, 2, 4),
            ("arrow", 3, 0, 2, 3, 5),
            ("arrow", 4, 0, 1, 1, 2),
            ("saying", 0, 2, 0, -4, 0),
            ("saying", 1, 0, 1, 0, 0),
        ])

    def test_without_ties(self):
        self.assertEqual(ties(NOTHING), [])
        self.assertEqual(ties(web_of(3, [(1, 1), (0, 0)])), [])

    def test_sayings_are_never_exchanged(self):
        web = web_of(2, [(0, 1), (1, 0)], [(1, 0, -9), (1, 0, -9), (0, 1, 1)])
        self.assertEqual(ties(web)[2:], [
            ("saying", 0, 1, 0, -9, 0), ("saying", 1, 1, 0, -9, 0), ("saying", 2, 0, 1, 1, 0),
        ])

    def test_clashing_ones_are_told(self):
        for label, web in CLASHING.items():
            with self.subTest(label):
                self.assertEqual(ties(web), ties_of(web))

    def test_as_worded(self):
        for web in itertools.chain(small_webs(), mixed_webs(), wild_webs(), [full_web()]):
            told = ties(web)
            self.assertEqual(told, ties_of(web), web)
            self.assertIsInstance(told, list)
            self.assertEqual({type(tie) for tie in told} | {tuple}, {tuple})

    def test_by_name(self):
        self.assertEqual(ties(web=web_of(2, [(1, 0)])), [("arrow", 0, 1, 0, 1, 1)])


class Told(unittest.TestCase):
    """The told layering and the told flow."""

    def check(self, web):
        count, some = len(web[0]), ties_of(web)
        layering, amounts = layers(web), flow(web)
        self.assertIsInstance(layering, list)
        self.assertIsInstance(amounts, list)
        self.assertEqual({type(number) for number in layering + amounts} | {int}, {int})
        self.assertEqual(len(layering), count)
        self.assertTrue(keeps(some, layering), web)
        self.assertGreaterEqual(min(layering, default=0), 0)
        for lot in lots(count, some):
            self.assertEqual(min(layering[box] for box in lot), 0, web)
        self.assertEqual(len(amounts), len(some))
        self.assertTrue(is_flow(count, some, amounts), web)
        told = length_of(some, layering)
        self.assertEqual(worth_of(some, amounts), told, web)
        self.assertEqual(length(web), told)
        self.assertEqual(length(web, layering), told)
        self.assertEqual(worth(web, amounts), told)

    def layering(self, web, expected):
        self.check(web)
        self.assertEqual(layers(web), expected)

    def test_without_boxes(self):
        self.layering(NOTHING, [])
        self.assertEqual(flow(NOTHING), [])
        self.assertEqual(length(NOTHING), 0)
        self.assertEqual(length(NOTHING, []), 0)
        self.assertEqual(worth(NOTHING, []), 0)

    def test_without_ties(self):
        self.layering(web_of(1, []), [0])
        self.layering(web_of(4, [(1, 1), (1, 1), (3, 3)]), [0, 0, 0, 0])
        self.assertEqual(flow(web_of(4, [(1, 1)])), [])

    def test_only_one_layering_is_shortest(self):
        self.layering(web_of(2, [(1, 0)]), [1, 0])
        self.layering(KNOTTY, [0, 1, 3])
        self.assertEqual(length(KNOTTY), 27)
        # The last box goes right above the box to which it points.
        self.layering(web_of(4, [(0, 1), (1, 2), (3, 2)]), [0, 1, 2, 1])
        # The last box goes to the heavier one of its two arrows.
        long = ((0, 1, 3, 1), (1, 2, 3, 1))
        self.layering((("a", "b", "c", "d"), long + ((0, 3, 1, 9), (3, 2, 1, 8)), ()), [0, 3, 6, 1])
        self.layering((("a", "b", "c", "d"), long + ((0, 3, 1, 8), (3, 2, 1, 9)), ()), [0, 3, 6, 5])
        # Two light arrows down are heavier than one up.
        self.layering((("a", "b", "c", "d"), long + ((0, 3, 2, 7), (3, 2, 1, 4), (3, 2, 1, 4)), ()), [0, 3, 6, 5])

    def test_only_one_flow_is_best(self):
        self.assertEqual(flow((("a", "b"), ((0, 1, 2, 7),), ())), [7])
        self.assertEqual(flow((("a", "b"), ((0, 1, 2, 7), (0, 1, 1, 4)), ())), [11, 0])
        self.assertEqual(flow((("a", "b"), ((0, 1, 2, 7), (1, 0, 3, 4)), ((0, 1, 1),))), [0, 11, 0])
        self.assertEqual(flow((("a", "b"), ((0, 1, 2, 7),), ((0, 1, 9), (1, 0, -9)))), [0, 7, 0])

    def test_lots(self):
        self.layering(web_of(7, [(0, 1), (3, 2), (2, 3), (6, 5)], [(4, 5, 2)]), [0, 1, 1, 0, 0, 2, 1])
        for first, second in itertools.product(itertools.islice(peaceful_webs(), 0, 200, 9), repeat=2):
            if len(first[2]) + len(second[2]) <= 20:
                self.check(beside(first, second))

    def test_sayings_there_and_back(self):
        self.layering(web_of(3, [(0, 1)], [(1, 2, 0), (2, 1, 0)]), [0, 1, 1])
        self.layering(web_of(2, [], [(0, 1, -2), (1, 0, 2)]), [2, 0])
        self.layering(web_of(4, [(0, 1), (2, 3)], [(0, 3, -5), (3, 0, 5)]), [6, 7, 0, 1])
        for apart in range(-9, 10):
            web = web_of(3, [(0, 2)], [(0, 1, apart), (1, 0, -apart)])
            self.check(web)
            self.assertEqual(layers(web)[1] - layers(web)[0], apart)

    def test_far_sayings(self):
        self.layering((("a", "b"), ((0, 1, 1, 9),), ((0, 1, 9),)), [0, 9])
        self.assertEqual(length((("a", "b"), ((0, 1, 1, 9),), ((0, 1, 9),))), 81)
        self.layering(web_of(21, [], [(box, box + 1, 9) for box in range(20)]), list(range(0, 181, 9)))

    def test_sayings_below_nought(self):
        self.check(web_of(2, [], [(0, 1, -9)]))
        self.layering(web_of(3, [(0, 1), (1, 2)], [(2, 0, -9)]), [0, 1, 2])
        # The saying is no more than the room that the heavy arrow leaves.
        self.layering((("a", "b", "c"), ((0, 1, 1, 1), (0, 2, 3, 1)), ((2, 1, -1),)), [0, 2, 3])

    def test_good_webs(self):
        for web in peaceful_webs():
            self.check(web)

    def test_mixed_webs(self):
        for web in mixed_webs():
            self.check(web)

    def test_small_webs(self):
        for web in itertools.islice(small_webs(), 0, None, 7):
            self.check(web)

    def test_many_arrows_among_few_boxes(self):
        source = random.Random(7)
        for _ in range(60):
            pairs = list(itertools.product(range(5), range(5, 10)))
            source.shuffle(pairs)
            arrows = tuple(pair + (source.randint(1, 3), source.randint(1, 9)) for pair in pairs)
            for sayings in [(), random_sayings(source, 10, 4)]:
                if clash((NAMES[:10], arrows, sayings)) is None:
                    self.check((NAMES[:10], arrows, sayings))

    def test_a_short_time(self):
        source = random.Random(8)
        for number in range(10):
            downwards = [tuple(sorted(source.sample(range(40), 2))) for _ in range(80)]
            arrows = tuple(pair + (source.randint(1, 3), source.randint(1, 9)) for pair in downwards)
            wild = random_arrows(source, 40, 80)
            sayings = tuple((box, box + 20, source.randint(-9, 9)) for box in range(20)) if number % 2 else ()
            for web in [(NAMES[:40], arrows, sayings), (NAMES[:40], wild, ())]:
                start = time.process_time()
                layers(web)
                flow(web)
                length(web)
                self.assertLess(time.process_time() - start, 5)
                self.check(web)


class NoneIsBetter(unittest.TestCase):
    def small(self):
        source = random.Random(9)
        for web in peaceful_webs():
            if len(web[0]) <= 4:
                yield web
        for _ in range(60):
            count = source.randint(2, 4)
            arrows = random_arrows(source, count, source.randint(1, 6))
            web = (NAMES[:count], arrows, random_sayings(source, count, source.randint(0, 3)))
            if clash(web) is None:
                yield web

    def test_no_layering_is_shorter(self):
        for web in self.small():
            some, told = ties_of(web), length(web)
            weights = balances(len(web[0]), some, [tie[5] for tie in some])
            for layering in itertools.product(range(9), repeat=len(web[0])):
                if sum(map(int.__mul__, weights, layering)) < told:
                    self.assertFalse(keeps(some, layering), (web, layering))

    def test_length_of_each_layering(self):
        for web in itertools.islice(self.small(), 0, None, 6):
            some = ties_of(web)
            for layering in itertools.islice(itertools.product(range(9), repeat=len(web[0])), 0, None, 11):
                if keeps(some, layering):
                    self.assertEqual(length(web, list(layering)), length_of(some, layering))

    def test_no_flow_has_more_worth(self):
        for web in self.small():
            count, some = len(web[0]), ties_of(web)
            if len(some) > 5:
                continue
            told = worth_of(some, flow(web))
            for amounts in itertools.product(range(6), repeat=len(some)):
                if worth_of(some, amounts) > told:
                    self.assertFalse(is_flow(count, some, amounts), (web, amounts))

    def test_no_flow_beside_the_told_one_has_more_worth(self):
        source = random.Random(10)
        for web in peaceful_webs():
            count, some, amounts = len(web[0]), ties_of(web), flow(web)
            told = worth(web, amounts)
            self.assertLessEqual(worth(web, [tie[5] for tie in some]), told)
            for _ in range(20):
                near = [max(0, much + source.choice([-1, 0, 0, 0, 1])) for much in amounts]
                if is_flow(count, some, near):
                    self.assertLessEqual(worth(web, near), told)

    def test_roomy_layerings_are_no_shorter(self):
        for web, layering in roomy_webs():
            some = ties_of(web)
            self.assertTrue(keeps(some, layering))
            handed = list(layering)
            self.assertEqual(length(web, handed), length_of(some, layering))
            self.assertEqual(handed, layering)
            self.assertGreaterEqual(length(web, layering), length(web))
            self.assertGreaterEqual(length(web, layering), worth(web, flow(web)))


class LengthOfOtherWebs(unittest.TestCase):
    def test_all_arrows_the_other_way_about(self):
        tried = 0
        for web in peaceful_webs():
            if not turned(web):
                tried += 1
                self.assertEqual(length(other_way_about(web)), length(web), web)
        self.assertGreater(tried, 50)

    def test_half_the_weights(self):
        for web in peaceful_webs():
            names, arrows, sayings = web
            light = tuple((one, other, least, (weight + 1) // 2) for one, other, least, weight in arrows)
            light = tuple((one, other, least, min(weight, 4)) for one, other, least, weight in light)
            heavy = tuple((one, other, least, 2 * weight) for one, other, least, weight in light)
            self.assertEqual(2 * length((names, light, sayings)), length((names, heavy, sayings)))

    def test_two_webs_beside_one_another(self):
        some = [web for web in peaceful_webs() if len(web[2]) <= 10][::5]
        for first, second in zip(some, some[1:]):
            self.assertEqual(length(beside(first, second)), length(first) + length(second))

    def test_a_saying_more(self):
        source = random.Random(11)
        longer = 0
        for web in peaceful_webs():
            names, arrows, sayings = web
            if len(sayings) == 20:
                continue
            more = (names, arrows, sayings + random_sayings(source, len(names), 1))
            if clash(more) is None:
                self.assertGreaterEqual(length(more), length(web))
                longer += length(more) > length(web)
        self.assertGreater(longer, 10)


class Length(unittest.TestCase):
    def test_layering_left_out(self):
        self.assertEqual(length(KNOTTY), 27)
        self.assertEqual(length(KNOTTY, None), 27)
        self.assertEqual(length(web=KNOTTY, layering=None), 27)

    def test_layering_handed_in(self):
        self.assertEqual(length(KNOTTY, [0, 1, 3]), 27)
        self.assertEqual(length(KNOTTY, [1, 3, 5]), 2 * 2 + 4 * 2 + 5 * 4 + 2 * 2)
        self.assertEqual(length(layering=[4, 5, 7], web=KNOTTY), 27)

    def test_loops_and_sayings_have_none(self):
        self.assertEqual(length(web_of(2, [(0, 0), (1, 1)], [(0, 1, 3)]), [0, 9]), 0)

    def test_huge_layers(self):
        self.assertEqual(length((("a", "b"), ((0, 1, 3, 7),), ()), [0, HUGE]), 7 * HUGE)


class Worth(unittest.TestCase):
    def test_any_list_of_numbers(self):
        self.assertEqual(worth(KNOTTY, [1, 10, 100, 1000, 10000, 100000]), 1 + 20 + 300 + 1000 - 40000)
        self.assertEqual(worth(KNOTTY, [-1, 0, 0, 0, -1, -7]), 3)
        self.assertEqual(worth(KNOTTY, [HUGE, 0, -HUGE, 0, 0, 0]), -2 * HUGE)
        source = random.Random(12)
        for web in wild_webs():
            some = ties_of(web)
            amounts = [source.randint(-99, 99) for _ in some]
            handed = list(amounts)
            self.assertEqual(worth(web, handed), worth_of(some, amounts))
            self.assertEqual(handed, amounts)

    def test_clashing_ties(self):
        for web in clashing_webs():
            some = ties_of(web)
            self.assertEqual(worth(web, list(range(len(some)))), worth_of(some, range(len(some))))

    def test_by_name(self):
        self.assertEqual(worth(flow=[5], web=(("a", "b"), ((0, 1, 3, 1),), ())), 15)


class Clashes(unittest.TestCase):
    def refused(self, call, *handed):
        with self.assertRaises(Clash) as caught:
            call(*handed)
        return caught.exception.ring

    def check(self, web):
        some = ties_of(web)
        told = clash(web)
        self.assertIsInstance(told, list, web)
        self.assertTrue(is_clashing_ring(some, told), (web, told))
        rings = [self.refused(call, web) for call in (layers, flow, length)]
        for handed in [[], [0], [0] * len(web[0]), list(range(len(web[0]))), [HUGE] * 50]:
            rings.append(self.refused(length, web, handed))
        for ring in rings:
            self.assertIsInstance(ring, list)
            self.assertTrue(is_clashing_ring(some, ring), (web, ring))

    def test_by_kinds(self):
        for label, web in CLASHING.items():
            with self.subTest(label):
                self.check(web)

    def test_only_one_ring(self):
        self.assertIn(clash(web_of(2, [], [(0, 1, 1), (1, 0, 0)])), ([0, 1], [1, 0]))
        self.assertIn(clash(CLASHING["three sayings"]), ([0, 1, 2], [1, 2, 0], [2, 0, 1]))
        # The loop is no tie, so the places of ties are not those of arrows.
        self.assertIn(clash(web_of(2, [(0, 0), (0, 1)], [(1, 0, 0)])), ([0, 1], [1, 0]))
        # Only the doubled arrow of least 3 clashes.
        web = (("a", "b"), ((0, 1, 1, 1), (0, 1, 3, 1), (0, 1, 2, 1)), ((1, 0, -2),))
        self.assertIn(clash(web), ([1, 3], [3, 1]))
        told = clash(CLASHING["a long way down"])
        self.assertEqual(sorted(told), list(range(40)))

    def test_none(self):
        for label, web in NOT_CLASHING.items():
            with self.subTest(label):
                self.assertIsNone(clash(web))
        for web in [NOTHING, web_of(1, []), web_of(1, [(0, 0)])]:
            self.assertIsNone(clash(web))

    def test_arrows_alone_never_clash(self):
        for web in itertools.chain(small_webs(), mixed_webs()):
            self.assertIsNone(clash(web))

    def test_just_where_no_layering_keeps_all_ties(self):
        clashes = 0
        for web in wild_webs():
            if clash(web) is None:
                self.assertTrue(keeps(ties_of(web), layers(web)))
            else:
                clashes += 1
                self.check(web)
        self.assertTrue(50 < clashes < 250, clashes)
        for web, layering in roomy_webs():
            self.assertTrue(keeps(ties_of(web), layering))
            self.assertIsNone(clash(web))

    def test_small_webs_by_all_layerings(self):
        leasts = [-2, -1, 0, 1]
        for pairs in [[], [(0, 1)], [(1, 2), (2, 0)], [(0, 1), (1, 0)]]:
            for some in itertools.product(leasts, repeat=3):
                sayings = [(0, 1, some[0]), (1, 2, some[1]), (2, 0, some[2])]
                web = web_of(3, pairs, sayings)
                kept = any(keeps(ties_of(web), layering) for layering in itertools.product(range(6), repeat=3))
                self.assertEqual(clash(web) is None, kept, web)

    def test_ties_and_worth_are_told(self):
        for label, web in CLASHING.items():
            with self.subTest(label):
                self.assertEqual(worth(web, [0] * len(ties(web))), 0)

    def test_by_name(self):
        self.assertIsNone(clash(web=NOTHING))
        self.assertEqual(sorted(clash(web=CLASHING["two sayings"])), [0, 1])
        self.assertEqual(layers(web=web_of(2, [(1, 0)])), [1, 0])
        self.assertEqual(flow(web=web_of(2, [(1, 0)])), [1])


class Refusals(unittest.TestCase):
    def refuse(self, web):
        for call in (ties, clash, layers, flow, length):
            self.assertRaises(BadWeb, call, web)
        for handed in [[], [0], [0, 1], [-5] * 3, list(range(200)), [HUGE] * 40]:
            before = list(handed)
            self.assertRaises(BadWeb, length, web, handed)
            self.assertRaises(BadWeb, worth, web, handed)
            self.assertEqual(handed, before)
        self.assertRaises(BadWeb, length, web, None)

    def test_bad_web(self):
        for label, web in BAD_WEBS.items():
            with self.subTest(label):
                self.refuse(web)

    def test_bad_web_ahead_of_clash(self):
        for label, (names, arrows, sayings) in BAD_WEBS.items():
            with self.subTest(label):
                self.refuse((names, arrows, ((0, 1, 1), (1, 0, 1)) + sayings))
        names, arrows, sayings = CLASHING["a long way down"]
        self.refuse((names, arrows + ((0, 1, 4, 1),), sayings))
        self.refuse((names, arrows, sayings + ((0, 0, 0),)))
        self.refuse((names[:-1] + names[:1], arrows, sayings))


class ToldLists(unittest.TestCase):
    def ask(self, web):
        told = [ties(web), clash(web)]
        if told[1] is None:
            return told + [layers(web), flow(web), length(web)]
        for call in (layers, flow, length):
            try:
                call(web)
            except Clash as refused:
                told.append(refused.ring)
        return told

    def test_changed_later(self):
        for web in [KNOTTY, NOTHING] + list(CLASHING.values()) + list(NOT_CLASHING.values()):
            before = copy.deepcopy(self.ask(web))
            for told in self.ask(web):
                if isinstance(told, list):
                    told.append(99)
                    told[0] = -5
                    told.reverse()
            self.assertEqual(self.ask(web), before)

    def test_the_same_each_time(self):
        for web in itertools.chain(wild_webs(), mixed_webs()):
            twin = tuple(tuple(part) for part in copy.deepcopy(web))
            first = copy.deepcopy(self.ask(web))
            self.ask(KNOTTY)
            self.assertEqual(self.ask(twin), first)


if __name__ == "__main__":
    unittest.main()

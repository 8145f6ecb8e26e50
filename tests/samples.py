"""Webs, and tuples that are none, which several tests need."""

import itertools
import random
import string

HUGE = 10 ** 40 - 1

NAMES = tuple("".join(pair) for pair in itertools.product("abcde", string.ascii_lowercase))


def web_of(count, pairs, sayings=()):
    """A web of so many boxes, with an arrow of least 1 and weight 1 for each pair."""
    return (NAMES[:count], tuple((one, other, 1, 1) for one, other in pairs), tuple(sayings))


def full_web():
    """A web with as much of everything as a web may have."""
    pairs = [(place % 40, place * 7 % 40) for place in range(80)]
    sayings = [(place, place + 20, place % 19 - 9) for place in range(20)]
    return web_of(40, pairs, sayings)


GOOD_WEBS = {
    "no boxes": ((), (), ()),
    "one box": (("a",), (), ()),
    "a name of six letters": (("abcxyz",), (), ()),
    "names that begin alike": (("a", "aa", "aaa"), (), ()),
    "full": full_web(),
    "a loop": web_of(1, [(0, 0)]),
    "doubled loops": web_of(2, [(1, 1), (1, 1)]),
    "doubled arrows": web_of(2, [(0, 1), (0, 1), (0, 1)]),
    "there and back": web_of(2, [(0, 1), (1, 0)]),
    "least 1, weight 1": (("a", "b"), ((0, 1, 1, 1),), ()),
    "least 3, weight 9": (("a", "b"), ((0, 1, 3, 9),), ()),
    "a saying of -9": web_of(2, [], [(0, 1, -9)]),
    "a saying of 0": web_of(2, [], [(0, 1, 0)]),
    "a saying of 9": web_of(2, [], [(1, 0, 9)]),
    "doubled sayings": web_of(2, [], [(0, 1, 2), (0, 1, 2)]),
}


def with_arrow(*arrow):
    return (("a", "b"), ((0, 1, 1, 1), arrow), ())


def with_saying(*saying):
    return (("a", "b"), (), ((0, 1, 1), saying))


def with_name(name):
    return (("a", name), (), ())


BAD_WEBS = {
    "forty-one boxes": web_of(41, []),
    "eighty-one arrows": web_of(2, [(0, 1)] * 81),
    "twenty-one sayings": web_of(2, [], [(0, 1, 1)] * 21),
    "a name twice": (("a", "b", "a"), (), ()),
    "an empty name": with_name(""),
    "a name of seven letters": with_name("abcdefg"),
    "a capital letter": with_name("bC"),
    "a figure": with_name("b2"),
    "a blank": with_name("b c"),
    "a blank behind": with_name("b "),
    "a line feed behind": with_name("b\n"),
    "the sign ahead of a": with_name("`"),
    "the sign behind z": with_name("{"),
    "a letter beyond a to z": with_name("\u00e4"),
    "an underline": with_name("b_c"),
    "an arrow of no number": with_arrow(),
    "an arrow of three numbers": with_arrow(0, 1, 1),
    "an arrow of five numbers": with_arrow(0, 1, 1, 1, 1),
    "an arrow from -1": with_arrow(-1, 1, 1, 1),
    "an arrow to -1": with_arrow(0, -1, 1, 1),
    "an arrow from beyond": with_arrow(2, 1, 1, 1),
    "an arrow to beyond": with_arrow(0, 2, 1, 1),
    "an arrow from far off": with_arrow(HUGE, 1, 1, 1),
    "an arrow to far off": with_arrow(0, -HUGE, 1, 1),
    "an arrow of least 0": with_arrow(0, 1, 0, 1),
    "an arrow of least 4": with_arrow(0, 1, 4, 1),
    "an arrow of least -1": with_arrow(0, 1, -1, 1),
    "an arrow of huge least": with_arrow(0, 1, HUGE, 1),
    "an arrow of least far below": with_arrow(0, 1, -HUGE, 1),
    "an arrow of weight 0": with_arrow(0, 1, 1, 0),
    "an arrow of weight 10": with_arrow(0, 1, 1, 10),
    "an arrow of weight -1": with_arrow(0, 1, 1, -1),
    "an arrow of huge weight": with_arrow(0, 1, 1, HUGE),
    "an arrow of weight far below": with_arrow(0, 1, 1, -HUGE),
    "a loop of least 0": with_arrow(1, 1, 0, 1),
    "a saying of no number": with_saying(),
    "a saying of two numbers": with_saying(0, 1),
    "a saying of four numbers": with_saying(0, 1, 1, 1),
    "a saying of -1": with_saying(-1, 1, 1),
    "a saying to -1": with_saying(0, -1, 1),
    "a saying of a box beyond": with_saying(2, 1, 1),
    "a saying to a box beyond": with_saying(0, 2, 1),
    "a saying of a box far off": with_saying(-HUGE, 1, 1),
    "a saying to a box far off": with_saying(0, HUGE, 1),
    "a saying of least -10": with_saying(0, 1, -10),
    "a saying of least 10": with_saying(0, 1, 10),
    "a saying of huge least": with_saying(0, 1, HUGE),
    "a saying of least far below": with_saying(0, 1, -HUGE),
    "a saying of a box with itself": with_saying(1, 1, 1),
    "a saying of least 0 of a box with itself": with_saying(0, 0, 0),
    "an arrow without boxes": ((), ((0, 0, 1, 1),), ()),
    "a saying without boxes": ((), (), ((0, 1, 1),)),
}


def small_webs():
    """All webs of three boxes with up to four arrows of least 1 and weight 1."""
    pairs = list(itertools.product(range(3), repeat=2))
    for count in range(5):
        for some in itertools.product(pairs, repeat=count):
            yield web_of(3, some)


def mixed_webs():
    """Webs of many sizes, the same ones each time."""
    source = random.Random(20261118)
    for _ in range(150):
        count = source.randint(1, 40)
        arrows = [
            (source.randrange(count), source.randrange(count), source.randint(1, 3), source.randint(1, 9))
            for _ in range(source.randint(0, 80))
        ]
        yield (NAMES[:count], tuple(arrows), ())

"""A board that is worked out anew from its deeds each time, and deeds for it, for the tests."""

import itertools

from layerink.chains import chains, rows
from layerink.crossings import crossings
from layerink.errors import (
    BadDeed, BadLeast, BadName, BadWeight, Clash, Full, NoArrow, NoBox, NoSaying, Same, Taken, Tied,
)
from layerink.layers import clash, layers
from layerink.orders import ordered
from layerink.pictures import picture
from layerink.rings import turned
from samples import HUGE, NAMES

COUNTS = {"box": 1, "drop": 1, "arrow": 4, "cut": 1, "alter": 3, "say": 3, "unsay": 1, "hold": 0, "free": 0}

REFUSALS = (BadDeed, BadName, Taken, Full, NoBox, Tied, BadLeast, BadWeight, NoArrow, Same, NoSaying, Clash)


class Model:
    """What a board must be behind some deeds, none of which is refused."""

    def __init__(self, deeds=()):
        self.names = []
        self.arrows = {}
        self.sayings = {}
        self.last = {"arrow": 0, "say": 0}
        self.kept = None
        for deed in deeds:
            self.do(deed)

    def due(self, deed):
        """All classes by which a deed may be refused, the first one first."""
        if not deed or deed[0] not in COUNTS or len(deed) != COUNTS[deed[0]] + 1:
            return [BadDeed]
        kind, *things = deed
        told = []
        if kind == "box":
            good = 1 <= len(things[0]) <= 6 and set(things[0]) <= set("abcdefghijklmnopqrstuvwxyz")
            told += [BadName] * (not good)
            told += [Taken] * (things[0] in self.names)
            told += [Full] * (len(self.names) == 40)
        if kind in ("drop", "arrow", "say"):
            told += [NoBox for thing in things if isinstance(thing, str) and thing not in self.names]
        if kind == "drop":
            ties = list(self.arrows.values()) + list(self.sayings.values())
            told += [Tied] * any(things[0] in tie for tie in ties)
        if kind in ("cut", "alter"):
            told += [NoArrow] * (things[0] not in self.arrows)
        if kind in ("arrow", "alter"):
            told += [BadLeast] * (things[-2] not in range(1, 4))
            told += [BadWeight] * (things[-1] not in range(1, 10))
        if kind == "arrow":
            told += [Full] * (len(self.arrows) == 80)
        if kind == "say":
            told += [Same] * (things[0] == things[1])
            told += [BadLeast] * (things[2] not in range(-9, 10))
            told += [Full] * (len(self.sayings) == 20)
        if kind == "unsay":
            told += [NoSaying] * (things[0] not in self.sayings)
        if kind == "hold":
            told += [Clash] * (clash(self.web()) is not None)
        return told

    def do(self, deed):
        kind, *things = deed
        if kind == "box":
            self.names.append(things[0])
        elif kind == "drop":
            self.names.remove(things[0])
        elif kind in ("arrow", "say"):
            self.last[kind] += 1
            (self.arrows if kind == "arrow" else self.sayings)[self.last[kind]] = tuple(things)
            return self.last[kind]
        elif kind == "cut":
            del self.arrows[things[0]]
        elif kind == "alter":
            self.arrows[things[0]] = self.arrows[things[0]][:2] + tuple(things[1:])
        elif kind == "unsay":
            del self.sayings[things[0]]
        elif kind == "hold":
            self.kept = [[self.names[item[1]] for item in row if item[0] == 0] for row in self.rows()]
        else:
            self.kept = None
        return None

    def web(self):
        ties = [
            tuple((self.names.index(tie[0]), self.names.index(tie[1]), *tie[2:]) for _, tie in sorted(some.items()))
            for some in (self.arrows, self.sayings)
        ]
        return (tuple(self.names), *ties)

    def numbers(self):
        return (sorted(self.arrows), sorted(self.sayings))

    def held_row(self, box):
        """The number of a box's held row, None where it has none."""
        found = [number for number, row in enumerate(self.kept or []) if self.names[box] in row]
        return found[0] if found else None

    def rows(self):
        web = self.web()
        layering = layers(web)
        first = []
        for row in rows(web, layering):
            boxes = [item for item in row if item[0] == 0]
            known = [item for item in boxes if self.held_row(item[1]) is not None]
            known.sort(key=lambda item: self.kept[self.held_row(item[1])].index(self.names[item[1]]))
            first.append(known + [item for item in row if item not in known])
        return ordered(first, chains(web, layering), self.pairs(layering))

    def pairs(self, layering):
        """The held pairs."""
        told = []
        for row in self.kept or []:
            for left, right in itertools.combinations([name for name in row if name in self.names], 2):
                left, right = self.names.index(left), self.names.index(right)
                if layering[left] == layering[right]:
                    told.append(((0, left), (0, right)))
        return told

    def moved(self):
        layering = layers(self.web())
        told = []
        for box, name in enumerate(self.names):
            before = self.held_row(box)
            if before is not None and before != layering[box]:
                told.append((name, before, layering[box]))
        return told

    def crossings(self):
        web = self.web()
        return crossings(self.rows(), chains(web, layers(web)))

    def draw(self):
        web = self.web()
        return picture(web, layers(web), self.rows())

    def turned(self):
        return [sorted(self.arrows)[place] for place in turned(self.web())]


def state_of(board):
    """All that a board tells but what needs layers."""
    return (board.web(), board.numbers(), board.held(), board.deeds(), len(board), str(board), repr(board), board.turned())


def some_name(source, names):
    roll = source.random()
    if names and roll < 0.93:
        return source.choice(names)
    return source.choice(["zz", "q", "toolong", "", "A", NAMES[3]])


def some_number(source, numbers):
    if numbers and source.random() < 0.9:
        return source.choice(numbers)
    return source.choice([0, -1, 1, 2, 77, HUGE])


def some_deed(source, model, most_boxes=9):
    """A deed for a board, now and then one that is refused."""
    kinds = ["box"] * 3 + ["arrow"] * 6 + ["say"] * 2 + ["cut", "alter", "unsay", "drop", "hold", "free"]
    kind = source.choice(kinds + ["drop"] * 2 + ["hold"])
    arrows, sayings = model.numbers()
    least = source.choice([1, 1, 1, 2, 3] * 6 + [0, 4, -1, HUGE])
    weight = source.choice([1, 1, 2, 5, 9] * 6 + [0, 10, -HUGE])
    if kind == "box":
        fresh = [name for name in NAMES[:most_boxes] if name not in model.names]
        return ("box", source.choice(fresh) if fresh and source.random() < 0.9 else some_name(source, model.names))
    if kind == "drop":
        ends = {end for tie in [*model.arrows.values(), *model.sayings.values()] for end in tie[:2]}
        loose = [name for name in model.names if name not in ends]
        return ("drop", source.choice(loose) if loose else some_name(source, model.names))
    if kind == "arrow":
        return ("arrow", some_name(source, model.names), some_name(source, model.names), least, weight)
    if kind == "cut":
        return ("cut", some_number(source, arrows))
    if kind == "alter":
        return ("alter", some_number(source, arrows), least, weight)
    if kind == "say":
        number = source.choice([-9, -2, -1, 0, 0, 1, 1, 2] * 3 + [9, -10, 10])
        return ("say", some_name(source, model.names), some_name(source, model.names), number)
    if kind == "unsay":
        return ("unsay", some_number(source, sayings))
    return (kind,)

"""Slow and plain answers to compare with, straight from the words of the document, and worlds to ask about."""

import functools
import itertools
import random

from heldorder.worlds import World


def do(first, second):
    return tuple(second[image] for image in first)


def made(points, told):
    """All made moves, found by composing everything with everything until nothing new comes."""
    found = {tuple(range(points))} | set(told)
    while True:
        more = found | {do(first, move) for first in found for move in told}
        if more == found:
            return sorted(found)
        found = more


def spell(told, row, indexes):
    for index in indexes:
        row = tuple(told[index][point] for point in row)
    return row


def best_word(told, row, goal, most):
    """The first word that leads from the row to the goal, shorter ones first, then by Python's order."""
    for length in range(most + 1):
        for word in itertools.product(range(len(told)), repeat=length):
            if spell(told, row, word) == goal:
                return word
    return None


def holders(moves, lot):
    return [move for move in moves if all(move[point] == point for point in lot)]


def closure(points, moves, lot):
    return tuple(p for p in range(points) if all(move[p] == p for move in holders(moves, lot)))


def loose(moves, row):
    return tuple(
        index for index, point in enumerate(row)
        if all(move[point] == point for move in holders(moves, row[:index]))
    )


def without(row, index):
    return tuple(point for place, point in enumerate(row) if place != index)


def needless(moves, row):
    whole = holders(moves, row)
    return tuple(index for index in range(len(row)) if holders(moves, without(row, index)) == whole)


def completed(points, moves, row):
    row = tuple(row)
    while True:
        moved = [p for p in range(points) if any(move[p] != p for move in holders(moves, row))]
        if not moved:
            return row
        row = row + (moved[0],)


def tight_rows(points, moves):
    """All tight rows of any length, ascending."""
    found, layer = [], [((), moves)]
    while layer:
        found += [row for row, _ in layer]
        layer = [
            (row + (p,), holders(left, (p,))) for row, left in layer for p in range(points)
            if any(move[p] != p for move in left)
        ]
    return sorted(found)


def is_full(moves, row):
    return len(holders(moves, row)) == 1


def ring(points):
    return tuple((p + 1) % points for p in range(points))


def by_steps(points, *steps):
    """The move that exchanges the two points of each step."""
    move = list(range(points))
    for first, second in steps:
        move[first], move[second] = second, first
    return tuple(move)


def beside(first, second):
    return first + tuple(point + len(first) for point in second)


FIVE = (1, 2, 3, 4, 0)
DOUBLE = (0, 2, 4, 1, 3)

# Twenty moves of the first five points, twenty of the next five, two points that nothing moves: 400 made moves.
FOUR_HUNDRED = [
    beside(FIVE, (0, 1, 2, 3, 4, 5, 6)),
    beside(DOUBLE, (0, 1, 2, 3, 4, 5, 6)),
    beside(beside((0, 1, 2, 3, 4), FIVE), (0, 1)),
    beside(beside((0, 1, 2, 3, 4), DOUBLE), (0, 1)),
]

# 7 moves of seven points, 60 of the other five: 420 made moves.
FOUR_HUNDRED_AND_TWENTY = [
    beside(ring(7), (0, 1, 2, 3, 4)),
    beside((0, 1, 2, 3, 4, 5, 6), FIVE),
    beside((0, 1, 2, 3, 4, 5, 6), (1, 2, 0, 3, 4)),
]

SIX_SWAPS = [by_steps(12, (p, p + 1)) for p in range(0, 12, 2)]

GIVEN = {
    "nothing": (0, []),
    "nothing, told twice": (0, [(), ()]),
    "one point": (1, []),
    "one point, told": (1, [(0,)]),
    "three still points": (3, []),
    "two points": (2, [(1, 0)]),
    "the example": (6, [(1, 2, 3, 0, 5, 4)]),
    "all of three": (3, [(1, 0, 2), (0, 2, 1)]),
    "all of four": (4, [(1, 0, 2, 3), (1, 2, 3, 0)]),
    "ring of six": (6, [ring(6)]),
    "polygon of five": (5, [ring(5), (0, 4, 3, 2, 1)]),
    "polygon of six": (6, [ring(6), (0, 5, 4, 3, 2, 1)]),
    "told with needless ones": (4, [(0, 1, 2, 3), (1, 0, 2, 3), (1, 0, 2, 3), (0, 1, 3, 2), (1, 0, 3, 2)]),
    "pairs in two ways": (5, [by_steps(5, (0, 1)), by_steps(5, (0, 1), (2, 3))]),
    "three swaps tied": (7, [by_steps(7, (0, 1), (2, 3)), by_steps(7, (2, 3), (4, 5))]),
    "six and four": (7, [(1, 2, 0, 3, 4, 5, 6), (1, 0, 2, 4, 3, 6, 5)]),
    "sides of the cube": (6, [by_steps(6, (0, 1)), by_steps(6, (0, 2), (1, 3)), by_steps(6, (2, 4), (3, 5))]),
    "corners of the cube": (8, [
        tuple(p ^ 1 for p in range(8)), (0, 2, 1, 3, 4, 6, 5, 7), (0, 1, 4, 5, 2, 3, 6, 7),
    ]),
    "eight told": (4, [by_steps(4, (0, 1)), by_steps(4, (2, 3))] * 4),
    "the example twice": (12, [
        beside((1, 2, 3, 0, 5, 4), (0, 1, 2, 3, 4, 5)), beside((0, 1, 2, 3, 4, 5), (1, 2, 3, 0, 5, 4)),
    ]),
    "the example, the other way round": (6, [(1, 0, 3, 4, 5, 2)]),
    "two and three": (9, [(1, 0, 3, 4, 2, 6, 7, 8, 5)]),
    "six, three and two": (11, [(1, 0, 3, 4, 2, 6, 7, 8, 9, 10, 5)]),
    "one to three": (12, [
        by_steps(12, (4, 5), (6, 7), (8, 9), (10, 11), (0, 1)),
        by_steps(12, (4, 6), (5, 7), (8, 10), (9, 11), (2, 3)),
        by_steps(12, (4, 8), (5, 9), (6, 10), (7, 11)),
    ]),
    "one to three, mixed": (12, [
        by_steps(12, (4, 5), (6, 7), (1, 9), (10, 11), (0, 8)),
        by_steps(12, (4, 6), (5, 7), (1, 10), (9, 11), (2, 3)),
        by_steps(12, (4, 1), (5, 9), (6, 10), (7, 11)),
    ]),
    "ten points": (10, [
        by_steps(10, (0, 1), (2, 3), (4, 5)), by_steps(10, (4, 5), (6, 7)), by_steps(10, (4, 6), (5, 7)),
    ]),
    "twelve points": (12, [
        beside(ring(4), (0, 1, 2, 3, 4, 5, 6, 7)),
        beside(beside((1, 0, 2, 3), ring(3)), (1, 0, 2, 3, 4)),
    ]),
}


def drawn_move(chance, points):
    move = list(range(points))
    part = chance.sample(range(points), chance.randrange(2, points + 1))
    images = part[:]
    chance.shuffle(images)
    for point, image in zip(part, images):
        move[point] = image
    return tuple(move)


def drawn(seed):
    """The points and told moves of a world of a few random told moves with not too many made moves."""
    chance = random.Random(seed)
    while True:
        points = chance.randrange(2, 8)
        told = [drawn_move(chance, points) for _ in range(chance.randrange(1, 4))]
        if len(made(points, told)) <= 60:
            return points, told


def drawn_uneven(seed):
    """The same for a world whose tight full rows do not all have one length."""
    chance = random.Random(seed)
    while True:
        points = chance.randrange(6, 10)
        told = [drawn_move(chance, points) for _ in range(chance.randrange(1, 3))]
        if all(len(made(points, [move])) <= 12 for move in told):
            moves = made_up_to(points, told, 72)
            if moves and len({len(row) for row in tight_rows(points, moves) if is_full(moves, row)}) > 1:
                return points, told


BLOCKS = {
    1: [(0,)],
    2: [(1, 0), (0, 1)],
    3: [(1, 2, 0), (1, 0, 2), (0, 1, 2)],
    4: [(1, 2, 3, 0), (1, 0, 3, 2), (2, 3, 0, 1), (1, 0, 2, 3), (0, 1, 3, 2), (0, 1, 2, 3), (3, 2, 1, 0)],
}


def drawn_in_blocks(seed):
    """A world of 6 to 12 points in blocks, each told move with its own part in each block, with several lengths."""
    chance = random.Random(seed)
    points = 6 + seed % 7
    while True:
        sizes = []
        while sum(sizes) < points:
            sizes.append(min(chance.choice([1, 2, 2, 2, 3, 4, 4]), points - sum(sizes)))
        told = []
        for _ in range(chance.randrange(2, 5)):
            move = ()
            for size in sizes:
                move = beside(move, chance.choice(BLOCKS[size]))
            told.append(move)
        moves = made_up_to(points, told, 72)
        rows = tight_rows(points, moves) if moves else []
        if len(rows) <= 1000 and len({len(row) for row in rows if is_full(moves, row)}) > 1:
            return points, told


def made_up_to(points, told, most):
    """The made moves, or None if they are more than so many."""
    found = {tuple(range(points))}
    fresh = found
    while fresh:
        fresh = {do(first, move) for first in fresh for move in told} - found
        found = found | fresh
        if len(found) > most:
            return None
    return sorted(found)


@functools.lru_cache(maxsize=None)
def worlds():
    """The given worlds and some drawn ones: (name, World, points, told moves, made moves)."""
    chosen = dict(GIVEN)
    for seed in range(20):
        chosen[f"drawn {seed}"] = drawn(seed)
        chosen[f"drawn uneven {seed}"] = drawn_uneven(seed)
    for seed in range(14):
        chosen[f"drawn in blocks {seed}"] = drawn_in_blocks(seed)
    return [(name, World(points, told), points, told, made(points, told)) for name, (points, told) in chosen.items()]


def lot_order(lots):
    return sorted(lots, key=lambda lot: (len(lot), lot))


class Known:
    """What is true of one world, each lot and each row looked at by itself."""

    def __init__(self, name, world, points, told, made):
        self.name, self.world, self.points, self.told, self.made = name, world, points, told, made
        self.closures = {}
        self._close((), made)

    def _close(self, lot, held):
        points = range(self.points)
        self.closures[lot] = tuple(p for p in points if all(move[p] == p for move in held))
        for point in range(lot[-1] + 1 if lot else 0, self.points):
            self._close(lot + (point,), [move for move in held if move[point] == point])

    def shut(self, row):
        """The closure of the lot of the row's points."""
        return self.closures[tuple(sorted(set(row)))]

    @functools.cached_property
    def lots(self):
        return lot_order(self.closures)

    @functools.cached_property
    def closed(self):
        return [lot for lot in self.lots if self.closures[lot] == lot]

    @functools.cached_property
    def tight(self):
        """The tight rows, shorter ones first."""
        return lot_order(tight_rows(self.points, self.made))

    @functools.cached_property
    def full(self):
        """The tight full rows, shorter ones first."""
        return [row for row in self.tight if is_full(self.made, row)]

    @property
    def lengths(self):
        return sorted({len(row) for row in self.full})

    def is_tight(self, row):
        return all(point not in self.shut(row[:index]) for index, point in enumerate(row))

    def is_full(self, row):
        return len(self.shut(row)) == self.points

    def tight_part(self, row):
        return tuple(point for index, point in enumerate(row) if point not in self.shut(row[:index]))

    def pairs(self, lot):
        """The pairs that fulfil the conditions 2 to 4 with the lot."""
        points = range(self.points)
        return [(p, q) for p in points for q in points if not self.failed(lot, p, q)]

    def failed(self, lot, p, q):
        """The first of the conditions 2 to 4 that is not fulfilled, or 0."""
        if q in self.shut(lot):
            return 2
        if q not in self.shut(tuple(lot) + (p,)):
            return 3
        return 4 if p in self.shut(tuple(lot) + (q,)) else 0

    def lots_to_try(self, many=256):
        """All lots, or so many of them if there are more."""
        return self.lots if len(self.lots) <= many else random.Random(self.points).sample(self.lots, many)

    @functools.cached_property
    def first_failing(self):
        return next(((held, p, q) for held in self.tight for p, q in self.pairs(held)), None)


@functools.lru_cache(maxsize=None)
def known():
    return [Known(*told) for told in worlds()]


def muddled(lot, seed):
    """The lot as a list of up to 24 points in any order, with duplicates."""
    chance = random.Random(seed)
    more = list(lot) + ([chance.choice(lot) for _ in range(chance.randrange(25 - len(lot)))] if lot else [])
    chance.shuffle(more)
    return more


def rows_to_try(points, seed, many=40):
    """Rows of many lengths with and without duplicates."""
    chance = random.Random(seed)
    rows = [()] + [(p,) for p in range(points)] + list(itertools.product(range(points), repeat=2))
    if points:
        for _ in range(many):
            rows.append(tuple(chance.randrange(points) for _ in range(chance.randrange(3, 25))))
            rows.append(tuple(chance.sample(range(points), chance.randrange(1, points + 1))))
    return rows

"""Slow and plain answers to compare with, straight from the words of the document, and worlds to ask about."""

import functools
import itertools
import random

from heldorder.worlds import World


def do(first, second):
    return tuple(second[image] for image in first)


def made(points, told):
    """All made moves, found by composing everything with everything until nothing new comes."""
    found = {tuple(range(points))} | set(told)
    while True:
        more = found | {do(first, move) for first in found for move in told}
        if more == found:
            return sorted(found)
        found = more


def spell(told, row, indexes):
    for index in indexes:
        row = tuple(told[index][point] for point in row)
    return row


def best_word(told, row, goal, most):
    """The first word that leads from the row to the goal, shorter ones first, then by Python's order."""
    for length in range(most + 1):
        for word in itertools.product(range(len(told)), repeat=length):
            if spell(told, row, word) == goal:
                return word
    return None


def holders(moves, lot):
    return [move for move in moves if all(move[point] == point for point in lot)]


def closure(points, moves, lot):
    return tuple(p for p in range(points) if all(move[p] == p for move in holders(moves, lot)))


def loose(moves, row):
    return tuple(
        index for index, point in enumerate(row)
        if all(move[point] == point for move in holders(moves, row[:index]))
    )


def without(row, index):
    return tuple(point for place, point in enumerate(row) if place != index)


def needless(moves, row):
    whole = holders(moves, row)
    return tuple(index for index in range(len(row)) if holders(moves, without(row, index)) == whole)


def completed(points, moves, row):
    row = tuple(row)
    while True:
        moved = [p for p in range(points) if any(move[p] != p for move in holders(moves, row))]
        if not moved:
            return row
        row = row + (moved[0],)


def tight_rows(points, moves):
    """All tight rows of any length, ascending."""
    found, layer = [], [((), moves)]
    while layer:
        found += [row for row, _ in layer]
        layer = [
            (row + (p,), holders(left, (p,))) for row, left in layer for p in range(points)
            if any(move[p] != p for move in left)
        ]
    return sorted(found)


def is_full(moves, row):
    return len(holders(moves, row)) == 1


def ring(points):
    return tuple((p + 1) % points for p in range(points))


def by_steps(points, *steps):
    """The move that exchanges the two points of each step."""
    move = list(range(points))
    for first, second in steps:
        move[first], move[second] = second, first
    return tuple(move)


def beside(first, second):
    return first + tuple(point + len(first) for point in second)


FIVE = (1, 2, 3, 4, 0)
DOUBLE = (0, 2, 4, 1, 3)

# Twenty moves of the first five points, twenty of the next five, two points that nothing moves: 400 made moves.
FOUR_HUNDRED = [
    beside(FIVE, (0, 1, 2, 3, 4, 5, 6)),
    beside(DOUBLE, (0, 1, 2, 3, 4, 5, 6)),
    beside(beside((0, 1, 2, 3, 4), FIVE), (0, 1)),
    beside(beside((0, 1, 2, 3, 4), DOUBLE), (0, 1)),
]

# 7 moves of seven points, 60 of the other five: 420 made moves.
FOUR_HUNDRED_AND_TWENTY = [
    beside(ring(7), (0, 1, 2, 3, 4)),
    beside((0, 1, 2, 3, 4, 5, 6), FIVE),
    beside((0, 1, 2, 3, 4, 5, 6), (1, 2, 0, 3, 4)),
]

SIX_SWAPS = [by_steps(12, (p, p + 1)) for p in range(0, 12, 2)]

GIVEN = {
    "nothing": (0, []),
    "nothing, told twice": (0, [(), ()]),
    "one point": (1, []),
    "one point, told": (1, [(0,)]),
    "three still points": (3, []),
    "two points": (2, [(1, 0)]),
    "the example": (6, [(1, 2, 3, 0, 5, 4)]),
    "all of three": (3, [(1, 0, 2), (0, 2, 1)]),
    "all of four": (4, [(1, 0, 2, 3), (1, 2, 3, 0)]),
    "ring of six": (6, [ring(6)]),
    "polygon of five": (5, [ring(5), (0, 4, 3, 2, 1)]),
    "polygon of six": (6, [ring(6), (0, 5, 4, 3, 2, 1)]),
    "told with needless ones": (4, [(0, 1, 2, 3), (1, 0, 2, 3), (1, 0, 2, 3), (0, 1, 3, 2), (1, 0, 3, 2)]),
    "pairs in two ways": (5, [by_steps(5, (0, 1)), by_steps(5, (0, 1), (2, 3))]),
    "three swaps tied": (7, [by_steps(7, (0, 1), (2, 3)), by_steps(7, (2, 3), (4, 5))]),
    "six and four": (7, [(1, 2, 0, 3, 4, 5, 6), (1, 0, 2, 4, 3, 6, 5)]),
    "sides of the cube": (6, [by_steps(6, (0, 1)), by_steps(6, (0, 2), (1, 3)), by_steps(6, (2, 4), (3, 5))]),
    "corners of the cube": (8, [
        tuple(p ^ 1 for p in range(8)), (0, 2, 1, 3, 4, 6, 5, 7), (0, 1, 4, 5, 2, 3, 6, 7),
    ]),
    "eight told": (4, [by_steps(4, (0, 1)), by_steps(4, (2, 3))] * 4),
    "the example, the other way round": (6, [(1, 0, 3, 4, 5, 2)]),
    "two and three": (9, [(1, 0, 3, 4, 2, 6, 7, 8, 5)]),
    "six, three and two": (11, [(1, 0, 3, 4, 2, 6, 7, 8, 9, 10, 5)]),
    "one to three": (12, [
        by_steps(12, (4, 5), (6, 7), (8, 9), (10, 11), (0, 1)),
        by_steps(12, (4, 6), (5, 7), (8, 10), (9, 11), (2, 3)),
        by_steps(12, (4, 8), (5, 9), (6, 10), (7, 11)),
    ]),
    "one to three, mixed": (12, [
        by_steps(12, (4, 5), (6, 7), (1, 9), (10, 11), (0, 8)),
        by_steps(12, (4, 6), (5, 7), (1, 10), (9, 11), (2, 3)),
        by_steps(12, (4, 1), (5, 9), (6, 10), (7, 11)),
    ]),
    "twelve points": (12, [
        beside(ring(4), (0, 1, 2, 3, 4, 5, 6, 7)),
        beside(beside((1, 0, 2, 3), ring(3)), (1, 0, 2, 3, 4)),
    ]),
}


def drawn_move(chance, points):
    move = list(range(points))
    part = chance.sample(range(points), chance.randrange(2, points + 1))
    images = part[:]
    chance.shuffle(images)
    for point, image in zip(part, images):
        move[point] = image
    return tuple(move)


def drawn(seed):
    """The points and told moves of a world of a few random told moves with not too many made moves."""
    chance = random.Random(seed)
    while True:
        points = chance.randrange(2, 8)
        told = [drawn_move(chance, points) for _ in range(chance.randrange(1, 4))]
        if len(made(points, told)) <= 60:
            return points, told


def drawn_uneven(seed):
    """The same for a world whose tight full rows do not all have one length."""
    chance = random.Random(seed)
    while True:
        points = chance.randrange(6, 10)
        told = [drawn_move(chance, points) for _ in range(chance.randrange(1, 3))]
        if all(len(made(points, [move])) <= 12 for move in told):
            moves = made_up_to(points, told, 72)
            if moves and len({len(row) for row in tight_rows(points, moves) if is_full(moves, row)}) > 1:
                return points, told


def made_up_to(points, told, most):
    """The made moves, or None if they are more than so many."""
    found = {tuple(range(points))}
    fresh = found
    while fresh:
        fresh = {do(first, move) for first in fresh for move in told} - found
        found = found | fresh
        if len(found) > most:
            return None
    return sorted(found)


@functools.lru_cache(maxsize=None)
def worlds():
    """The given worlds and some drawn ones: (name, World, points, told moves, made moves)."""
    chosen = dict(GIVEN)
    for seed in range(20):
        chosen[f"drawn {seed}"] = drawn(seed)
        chosen[f"drawn uneven {seed}"] = drawn_uneven(seed)
    return [(name, World(points, told), points, told, made(points, told)) for name, (points, told) in chosen.items()]


def rows_to_try(points, seed, many=40):
    """Rows of many lengths with and without duplicates."""
    chance = random.Random(seed)
    rows = [()] + [(p,) for p in range(points)] + list(itertools.product(range(points), repeat=2))
    if points:
        for _ in range(many):
            rows.append(tuple(chance.randrange(points) for _ in range(chance.randrange(3, 25))))
            rows.append(tuple(chance.sample(range(points), chance.randrange(1, points + 1))))
    return rows

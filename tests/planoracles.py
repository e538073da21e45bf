"""Other ways to tell plans, their hours and chains of small orders; they share no code with the package."""

import functools
import itertools
import random

from twoslots.orders import Order

Q_ORDER = Order(6, [(0, 3), (1, 2), (1, 3), (1, 5), (4, 5)])
T_ORDER = Order(3, [(0, 1), (1, 2)])
THREE_AND_THREE = Order(6, [(one, other) for one in range(3) for other in range(3, 6)])


def ahead_of(order):
    return [frozenset(order.ahead(thing)) for thing in range(order.many())]


def hours_next(ahead, made):
    """All hours of one or two that can be made where some are made, as lists compare."""
    free = [thing for thing, those in enumerate(ahead) if thing not in made and those <= made]
    return sorted([[one] for one in free] + [list(pair) for pair in itertools.combinations(free, 2)])


def least_hours(order, made=frozenset()):
    """How few hours the rest wants, by trying all there is."""
    ahead = ahead_of(order)

    @functools.lru_cache(maxsize=None)
    def least(made):
        if len(made) == len(ahead):
            return 0
        return 1 + min(least(made | frozenset(hour)) for hour in hours_next(ahead, made))

    return least(frozenset(made))


def all_plans(order, hours):
    """All plans of so many hours, none of them empty, as lists compare."""
    ahead = ahead_of(order)

    def plans(made, hours):
        if len(made) == len(ahead):
            if hours == 0:
                yield []
            return
        if 2 * hours < len(ahead) - len(made):
            return
        for hour in hours_next(ahead, made):
            for rest in plans(made | set(hour), hours - 1):
                yield [hour] + rest

    return list(plans(frozenset(), hours))


def most_pairs(order):
    """The most pairs of numbers neither of which is ahead of the other, no number twice."""
    ahead = ahead_of(order)

    @functools.lru_cache(maxsize=None)
    def most(left):
        if not left:
            return 0
        one = min(left)
        rest = left - {one}
        found = most(rest)
        for other in rest:
            if one not in ahead[other] and other not in ahead[one]:
                found = max(found, 1 + most(rest - {other}))
        return found

    return most(frozenset(range(order.many())))


def is_plan(order, plan):
    made = set()
    for hour in plan:
        if len(hour) > 2 or hour != sorted(set(hour)) or made & set(hour):
            return False
        if any(not set(order.ahead(thing)) <= made for thing in hour):
            return False
        made |= set(hour)
    return made == set(range(order.many()))


def is_chain(order, chain):
    seen = [thing for block in chain for thing in block]
    if len(seen) != len(set(seen)) or any(len(block) % 2 == 0 or block != sorted(block) for block in chain):
        return False
    return all(one in order.ahead(other) for at in range(1, len(chain)) for one in chain[at - 1] for other in chain[at])


def hours_of_chain(chain):
    return sum((len(block) + 1) // 2 for block in chain)


def layered_order(rng, sizes, chance):
    """Things in layers, each ahead of some of the next layer."""
    pairs = []
    begin = 0
    for at in range(1, len(sizes)):
        for one in range(begin, begin + sizes[at - 1]):
            for other in range(begin + sizes[at - 1], begin + sizes[at - 1] + sizes[at]):
                if rng.random() < chance:
                    pairs.append((one, other))
        begin += sizes[at - 1]
    return Order(sum(sizes), mixed(rng, sum(sizes), pairs))


def mixed(rng, many, pairs):
    """The pairs with the things numbered otherwise."""
    names = rng.sample(range(many), many)
    return [(names[one], names[other]) for one, other in pairs]


def all_small_orders(many):
    """All orders of so many things of which lesser ones alone are ahead of greater ones."""
    every = list(itertools.combinations(range(many), 2))
    found = {}
    for size in range(len(every) + 1):
        for pairs in itertools.combinations(every, size):
            order = Order(many, pairs)
            found.setdefault(tuple(order.direct()), order)
    return list(found.values())


def random_small_orders(seed, many, most=8):
    rng = random.Random(seed)
    found = []
    for _ in range(many):
        size = rng.randint(0, most)
        every = [(one, other) for one in range(size) for other in range(one + 1, size)]
        pairs = rng.sample(every, min(len(every), rng.randint(0, size + size // 2)))
        found.append(Order(size, mixed(rng, size, pairs)))
    return found


def some_orders():
    return [Order(0, []), Order(1, []), Order(5, []), Q_ORDER, T_ORDER, THREE_AND_THREE]

"""Programs, runs and weavings drawn by fixed seeds: the same ones each time."""

import random

from waitedmeets.programs import look_at_program

WORTHS = (0, 1, True, False)
NAMES = ("s", "t", "u")


def draw_operand(rng, names, has_own):
    roll = rng.random()
    if names and roll < 0.6:
        return ("of", rng.choice(names))
    if has_own and roll < 0.7:
        return ("own",)
    return ("is", rng.choice(WORTHS))


def draw_given(rng, names, many, has_own):
    return tuple(draw_operand(rng, names, has_own) for _ in range(many))


def draw_place(rng, number):
    return ("abcdef"[number], rng.choice((0, 0, 1, 1, 2)))


def draw_slot(rng, name):
    return ("is", rng.choice(WORTHS)) if rng.random() < 0.4 else ("as", name)


def draw_heads(rng, places):
    chosen = rng.sample(places, rng.randint(1, min(3, len(places))))
    return tuple(
        (place, tuple(draw_slot(rng, place + "xyz"[slot]) for slot in range(many))) for place, many in chosen
    )


def draw_deed(rng, names, kinds, places, heads):
    """A deed that more often than not is done without a fault; names that it sets are added."""
    has_own = places is not None
    words = ["set", "let", "note", "make", "place", "lay", "call"] + (["put"] * 3 + ["answer"] * 3 if has_own else [])
    word = rng.choice(words)
    x = rng.choice(NAMES)
    a = draw_operand(rng, names, has_own)
    if word == "put":
        place, many = rng.choice(places)
        return ("put", place, draw_given(rng, names, many, has_own))
    if word == "answer":
        return ("answer", rng.choice(heads), a)
    if word == "note":
        return ("note", a)
    if word == "lay":
        return ("lay", a, draw_given(rng, names, rng.randint(0, 2), has_own))
    names.append(x)
    if word == "set":
        return ("set", x, a)
    if word == "let":
        return ("let", x, rng.choice(("plus", "times", "below", "same")), a, draw_operand(rng, names, has_own))
    if word == "make":
        return ("make", x, rng.choice(kinds))
    if word == "place":
        return ("place", x, a, rng.choice("abc"))
    return ("call", x, a, draw_given(rng, names, rng.randint(0, 2), has_own))


def draw_deeds(rng, names, kinds, places, heads, most):
    deeds = [draw_deed(rng, names, kinds, places, heads) for _ in range(rng.randint(0, most))]
    if len(deeds) > 2 and rng.random() < 0.4:
        deeds[0] = ("when", rng.choice((("is", True), ("is", False), draw_operand(rng, names, False))), 1)
    return tuple(deeds)


def draw_rule(rng, kinds, places):
    heads = draw_heads(rng, places)
    names = [name for _, slots in heads for how, name in slots if how == "as"]
    return (heads, draw_deeds(rng, names, kinds, places, [place for place, _ in heads], 4))


def draw_kind(rng, name, kinds):
    places = [draw_place(rng, number) for number in range(rng.randint(1, 4))]
    return (name, tuple(places), tuple(draw_rule(rng, kinds, places) for _ in range(rng.randint(1, 4))))


def draw_main(rng, kinds):
    """Main makes a lot and lays letters at its places, some of them by calls."""
    name, places, _ = rng.choice(kinds)
    deeds = [("make", "m", name)]
    for number, (place, many) in enumerate(places[:3]):
        at = "pqr"[number]
        deeds.append(("place", at, ("of", "m"), place))
        for _ in range(rng.randint(1, 2)):
            given = draw_given(rng, ["m", at], many, False)
            deeds.append(("call", "v", ("of", at), given) if rng.random() < 0.15 else ("lay", ("of", at), given))
    return tuple(deeds + [("note", ("is", 9))])[:16]


def draw_program(seed):
    rng = random.Random(seed)
    names = ["k", "l", "m"][:rng.randint(1, 3)]
    kinds = tuple(draw_kind(rng, name, names) for name in names)
    program = (kinds, draw_main(rng, kinds))
    look_at_program(program)
    return program


def draw_net(seed):
    """A net and a marking of it; some grow, some do not."""
    rng = random.Random(seed)
    places = [("abcd"[number], rng.choice((0, 0, 1))) for number in range(rng.randint(1, 4))]
    rules = []
    for _ in range(rng.randint(0, 4)):
        heads = tuple((place, (("as", place + "x"),) * many) for place, many in rng.sample(places, rng.randint(1, len(places))))
        puts = [rng.choice(places) for _ in range(rng.choice((0, 1, 1, 2, len(heads), 3)))]
        rules.append((heads, tuple(("put", place, (("is", rng.choice(WORTHS)),) * many) for place, many in puts)))
    return ("k", tuple(places), tuple(rules)), tuple(rng.choice((0, 1, 1, 2, 3)) for _ in places)


def draw_teller(rng, many):
    """A teller with so many places."""
    places = ["abcd"[number] for number in range(many)]
    rng.shuffle(places)
    rules = []
    for _ in range(rng.randint(0, 4)):
        heads = tuple((place, ()) for place in rng.sample(places, rng.randint(1, min(3, many))))
        rules.append((heads, tuple(("note", ("is", rng.choice(WORTHS))) for _ in range(rng.choice((0, 0, 1, 1, 2))))))
    return (rng.choice("kl"), tuple((place, 0) for place in places), tuple(rules))


def walked(thing, seed, most):
    """Does up to so many drawn steps of a Stand or a World; yields it behind each."""
    rng = random.Random(seed)
    for _ in range(most):
        steps = thing.steps()
        if not steps:
            return
        # By words first: else the moves of a World, which can nearly always be done, would be nearly all.
        word = rng.choice(sorted({step[0] for step in steps}))
        thing.do(rng.choice([step for step in steps if step[0] == word]))
        yield thing


def woven(runner, seed, most):
    """Lets up to so many drawn bodies go; yields the runner behind each."""
    rng = random.Random(seed)
    for _ in range(most):
        bodies = runner.ready()
        if not bodies:
            return
        runner.go(rng.choice(bodies))
        yield runner

"""The points of the document once more, each as plainly as it is worded, to compare the program with."""

import itertools
import random

TEXTS = ("", "a", "ab", "b", "ba", "c", "x", "xy", "y", "zzzz")
TAKES = {"join": 2, "sort": 1, "turn": 1, "first": 1, "rest": 1, "less": 2, "same": 2, "pick": 3}
MAKE = {
    "join": lambda one, other: one + other,
    "sort": lambda one: "".join(sorted(one)),
    "turn": lambda one: "".join(reversed(one)),
    "first": lambda one: one[0] if one else "",
    "rest": lambda one: one[1:] if one else "",
    "less": lambda one, other: "".join(letter for letter in one if letter not in set(other)),
    "same": lambda one, other: "y" if one == other else "",
    "pick": lambda one, other, third: other if one else third,
}


def plain_worlds(recipe):
    """Return the ascending list of all worlds."""
    return list(itertools.product(*(range(len(thing)) for thing in recipe[0])))


def plain_left(recipe, acts):
    """Return the ascending list of the worlds left."""
    pins = [act for act in acts if act[0] == "pin"]
    return [world for world in plain_worlds(recipe) if all(world[thing] == text for _, thing, text in pins)]


def plain_texts(recipe, acts, world):
    """Return the texts of all steps."""
    texts = []
    for step, (operation, reads) in enumerate(recipe[1]):
        read = []
        for word, number in reads:
            if word == "step":
                read.append(texts[number])
            else:
                read.append("" if ("hide", step, number) in acts else recipe[0][number][world[number]])
        texts.append(MAKE[operation](*read))
    return tuple(texts)


def plain_outcome(recipe, acts, world):
    """Return the outcome."""
    texts = plain_texts(recipe, acts, world)
    return tuple(texts[step] for step in recipe[2])


def plain_parting(recipe, acts):
    """Return the ascending list of all pairs of two ascending worlds that part."""
    left = plain_left(recipe, acts)
    made = {world: plain_outcome(recipe, acts, world) for world in left}
    return [pair for pair in itertools.combinations(left, 2) if made[pair[0]] != made[pair[1]]]


def plain_is_same(recipe, acts):
    """Return whether a recipe is same."""
    return bool(plain_left(recipe, acts)) and not plain_parting(recipe, acts)


def plain_classes(recipe, acts):
    """Return the ascending list of the tuples of an outcome and its class."""
    left = plain_left(recipe, acts)
    made = sorted({plain_outcome(recipe, acts, world) for world in left})
    return [(one, [world for world in left if plain_outcome(recipe, acts, world) == one]) for one in made]


def plain_bought(offers):
    """Return all bought acts."""
    acts = [act for act, _ in offers]
    return [some for many in range(len(acts) + 1) for some in itertools.combinations(acts, many)]


def plain_price(offers, acts):
    """Return the price of bought acts."""
    return sum(dict(offers)[act] for act in acts)


def plain_short(recipe, wish, acts):
    """Return the list of the worlds that fall short of a wish."""
    return [world for world in plain_left(recipe, acts) if plain_outcome(recipe, acts, world) != wish]


def plain_is_cure(recipe, wish, acts):
    """Return whether bought acts are a cure."""
    if wish is None:
        return plain_is_same(recipe, acts)
    return bool(plain_left(recipe, acts)) and not plain_short(recipe, wish, acts)


def plain_touches(recipe, act, world):
    """Return whether an act touches a world."""
    word, number, other = act
    if word == "pin":
        return world[number] != other
    return recipe[0][other][world[other]] != ""


def plain_cures(recipe, offers, wish):
    """Return the list of all cures."""
    return [acts for acts in plain_bought(offers) if plain_is_cure(recipe, wish, acts)]


def plain_cheapest(recipe, offers, wish):
    """Return the least price of a cure, or None, and the ascending list of all cures with it."""
    found = plain_cures(recipe, offers, wish)
    least = min((plain_price(offers, acts) for acts in found), default=None)
    return least, sorted(acts for acts in found if plain_price(offers, acts) == least)


def plain_reasons(recipe, offers, wish, price, acts):
    """Return the list of all right reasons for bought acts in a paper for a price."""
    found = [("unlike", pair) for pair in plain_parting(recipe, acts)]
    found.extend([("unlike", pair[::-1]) for _, pair in found])
    if wish is not None:
        found.extend([("unlike", (world,)) for world in plain_short(recipe, wish, acts)])
    if plain_price(offers, acts) >= price:
        found.append(("dear",))
    if not plain_left(recipe, acts):
        found.append(("none",))
    return found


def plain_needed(recipe, offers, acts, reason):
    """Return the set of the bought acts that must be there because of a reason for bought acts."""
    found = set()
    for act, _ in offers if reason[0] == "unlike" else ():
        if act not in acts and any(plain_touches(recipe, act, world) for world in reason[1]):
            found.add(tuple(sorted(acts + (act,))))
    return found


def plain_is_paper(recipe, offers, wish, price, value):
    """Return whether a list of pairs of tuples is a paper for a price."""
    there = [acts for acts, _ in value]
    if there != sorted(set(there)) or () not in there or not set(there) <= set(plain_bought(offers)):
        return False
    for acts, reason in value:
        if reason not in plain_reasons(recipe, offers, wish, price, acts):
            return False
        if not plain_needed(recipe, offers, acts, reason) <= set(there):
            return False
    return True


def plain_pairs(recipe, offers):
    """Return the set of the different pairs of price and classes of bought acts that leave a world."""
    return {(plain_price(offers, acts), len(plain_classes(recipe, acts)))
            for acts in plain_bought(offers) if plain_left(recipe, acts)}


def plain_trades(recipe, offers):
    """Return the ascending list of the trades."""
    pairs = plain_pairs(recipe, offers)
    return sorted(one for one in pairs if not any(
        other != one and other[0] <= one[0] and other[1] <= one[1] for other in pairs))


def plain_hanging(recipe, acts, thing, result):
    """Return the ascending list of all pairs of worlds left, unlike in a thing alone, with unlike results."""
    found = []
    for one, other in itertools.product(plain_left(recipe, acts), repeat=2):
        unlike = [at for at in range(len(one)) if one[at] != other[at]]
        if unlike == [thing] and result(recipe, acts, one) != result(recipe, acts, other):
            found.append((one, other))
    return sorted(found)


def plain_sets(recipe, world, other, right):
    """Return the ascending list of the least sets of things, unlike in two worlds, for which a test holds."""
    unlike = [at for at in range(len(world)) if world[at] != other[at]]
    found = [set(some) for many in range(len(unlike) + 1) for some in itertools.combinations(unlike, many)]
    found = [some for some in found if right(some)]
    return sorted(tuple(sorted(some)) for some in found if not any(less < some for less in found))


def plain_changing(recipe, world, other):
    """Return the ascending list of the least changing sets."""
    def changes(some):
        there = tuple(other[at] if at in some else world[at] for at in range(len(world)))
        return plain_outcome(recipe, (), there) != plain_outcome(recipe, (), world)
    return plain_sets(recipe, world, other, changes)


def plain_restoring(recipe, world, other):
    """Return the ascending list of the least restoring sets."""
    def restores(some):
        there = tuple(world[at] if at in some else other[at] for at in range(len(world)))
        return plain_outcome(recipe, (), there) == plain_outcome(recipe, (), world)
    return plain_sets(recipe, world, other, restores)


def plain_read(recipe, world, step):
    """Return the tuple of the texts that a step reads."""
    texts = plain_texts(recipe, (), world)
    return tuple(texts[number] if word == "step" else recipe[0][number][world[number]]
                 for word, number in recipe[1][step][1])


def plain_again(recipe, world, other):
    """Return the ascending list of the steps that are made again."""
    return [step for step in range(len(recipe[1]))
            if plain_read(recipe, world, step) != plain_read(recipe, other, step)]


def plain_runs(recipe, some):
    """Return the number of runs with all results kept."""
    kept = []
    for world in some:
        for step in range(len(recipe[1])):
            if (step, plain_read(recipe, world, step)) not in kept:
                kept.append((step, plain_read(recipe, world, step)))
    return len(kept)


def plain_runs_one_by_one(recipe, some):
    """Return the number of runs of worlds one after another with the results of the last one kept."""
    again = [len(plain_again(recipe, some[at - 1], some[at])) for at in range(1, len(some))]
    return len(recipe[1]) + sum(again)


def plain_least_runs(recipe, some):
    """Return the least number of runs of worlds one after another, and the first sequence with it."""
    found = {}
    for sequence in itertools.permutations(range(len(some))):
        found[sequence] = plain_runs_one_by_one(recipe, [some[at] for at in sequence])
    least = min(found.values())
    return least, min(sequence for sequence in found if found[sequence] == least)


def plain_column(recipe, step):
    """Return the list of the texts that a step has in all worlds."""
    return [plain_texts(recipe, (), world)[step] for world in plain_worlds(recipe)]


def plain_leans(recipe, step):
    """Return the set of the steps on which a step leans."""
    read = {number for word, number in recipe[1][step][1] if word == "step"}
    return read.union(*(plain_leans(recipe, number) for number in read))


def plain_unused(recipe):
    """Return the ascending list of the unused steps."""
    used = set(recipe[2]).union(*(plain_leans(recipe, step) for step in recipe[2]))
    return sorted(set(range(len(recipe[1]))) - used)


def plain_models(recipe):
    """Return the list of the models of all steps."""
    columns = [plain_column(recipe, step) for step in range(len(recipe[1]))]
    return [min(at for at in range(step + 1) if columns[at] == columns[step]) for step in range(len(columns))]


def plain_without(recipe, gone):
    """Return a recipe without one step that no other one reads, and that is not made."""
    def number_anew(word, number):
        return (word, number - 1 if word == "step" and number > gone else number)
    steps = [(operation, tuple(number_anew(*reading) for reading in reads))
             for at, (operation, reads) in enumerate(recipe[1]) if at != gone]
    return (recipe[0], tuple(steps), tuple(number_anew("step", step)[1] for step in recipe[2]))


def plain_trimmed(recipe):
    """Return the trimmed recipe."""
    first = plain_models(recipe)
    steps = tuple((operation, tuple((word, first[number]) if word == "step" else (word, number)
                                    for word, number in reads)) for operation, reads in recipe[1])
    recipe = (recipe[0], steps, recipe[2])
    while plain_unused(recipe):
        recipe = plain_without(recipe, plain_unused(recipe)[-1])
    return recipe


def plain_is_order(recipe, steps):
    """Return whether a tuple of numbers of steps is an order."""
    if sorted(steps) != list(range(len(recipe[1]))):
        return False
    place = {step: at for at, step in enumerate(steps)}
    return all(place[number] < place[step] for step, (_, reads) in enumerate(recipe[1])
               for word, number in reads if word == "step")


def plain_orders(recipe):
    """Return the ascending list of all orders."""
    return [steps for steps in itertools.permutations(range(len(recipe[1]))) if plain_is_order(recipe, steps)]


def plain_rounds(recipe, hands):
    """Return the least number of rounds: the least number of pieces, in any order, that are rounds."""
    best = len(recipe[1])
    for steps in plain_orders(recipe):
        # Each round of a row of steps takes as many of the next ones as it can.
        rounds, there = 0, 0
        while there < len(steps):
            rounds, this = rounds + 1, []
            while there < len(steps) and len(this) < hands and not any(
                    ("step", number) in recipe[1][steps[there]][1] for number in this):
                this.append(steps[there])
                there += 1
        best = min(best, rounds)
    return best


def plain_format(recipe):
    """Return the text."""
    things = ", ".join("|".join(text or "-" for text in thing) for thing in recipe[0])
    steps = ", ".join(operation + "".join(" " + word[0] + str(number) for word, number in reads)
                      for operation, reads in recipe[1])
    return "; ".join((things, steps, ", ".join(map(str, recipe[2]))))


def all_acts(recipe):
    """Return the ascending list of all acts that a recipe has."""
    found = [("pin", thing, text) for thing in range(len(recipe[0])) for text in range(len(recipe[0][thing]))]
    for step, (_, reads) in enumerate(recipe[1]):
        found.extend({("hide", step, number) for word, number in reads if word == "thing"})
    return sorted(found)


def some_recipe(chance, most_worlds=24):
    """Return a recipe with at most so many worlds."""
    things = []
    many = 1
    for _ in range(chance.randint(1, 4)):
        count = chance.choice((1, 2, 2, 2, 3, 4))
        if many * count <= most_worlds:
            things.append(tuple(sorted(chance.sample(TEXTS, count))))
            many *= count
    return some_recipe_of(chance, tuple(things))


def some_recipe_of(chance, things, most_steps=6):
    """Return a recipe of these things with at most so many steps."""
    steps = []
    for at in range(chance.randint(1, most_steps)):
        operation = chance.choice(sorted(TAKES))
        known = [("thing", number) for number in range(len(things))] + [("step", number) for number in range(at)]
        steps.append((operation, tuple(chance.choice(known) for _ in range(TAKES[operation]))))
    made = chance.sample(range(len(steps)), min(len(steps), chance.randint(1, 3)))
    return (things, tuple(steps), tuple(sorted(made)))


def some_acts(chance, recipe, most):
    """Return at most so many acts of a recipe, mostly with one pin of a thing at most."""
    acts = all_acts(recipe)
    if chance.randint(0, 3) > 0:
        wanted = {thing: chance.randrange(len(texts)) for thing, texts in enumerate(recipe[0])}
        acts = [act for act in acts if act[0] == "hide" or act[2] == wanted[act[1]]]
    return tuple(sorted(chance.sample(acts, min(len(acts), chance.randint(0, most)))))


def some_offers(chance, recipe, most):
    """Return at most so many offers of a recipe."""
    return tuple((act, chance.randint(1, 3)) for act in some_acts(chance, recipe, most))


def some_wish(chance, recipe):
    """Return a wish that is mostly an outcome in some world, under some hidings or none."""
    hidings = tuple(act for act in all_acts(recipe) if act[0] == "hide" and chance.randint(0, 2) == 0)
    world = chance.choice(plain_worlds(recipe))
    made = plain_outcome(recipe, hidings, world)
    return chance.choice([None, None, None, made, made, plain_outcome(recipe, (), world), tuple("q" for _ in made)])


def many_acts(count, seed):
    """Return the list of so many pairs of a recipe and acts of it, the same at every call."""
    chance = random.Random(seed)
    found = []
    for _ in range(count):
        recipe = some_recipe(chance)
        found.append((recipe, some_acts(chance, recipe, 5)))
    return found


def many_problems(count, seed, most=5):
    """Return the list of so many triples of a recipe, offers and a wish, the same at every call."""
    chance = random.Random(seed)
    found = []
    for _ in range(count):
        recipe = some_recipe(chance)
        found.append((recipe, some_offers(chance, recipe, most), some_wish(chance, recipe)))
    return found

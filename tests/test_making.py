"""texts_in and outcome: points [1] and [4] to [6]."""

import copy
import itertools
import unittest

from samebuilds.errors import InvalidActs, InvalidRecipe, InvalidWorld, NotLeft
from samebuilds.making import outcome, texts_in
from samebuilds.recipes import worlds
from tests.values import TWO, WIDE, Strange, not_recipes, odd_values, spoiled


def made_of(operation, *texts):
    """Return what an operation makes of texts of at most four letters each, by way of a recipe with as many things."""
    things = tuple((text,) for text in texts)
    reads = tuple(("thing", at) for at in range(len(texts)))
    made = texts_in((things, ((operation, reads),), (0,)), (), (0,) * len(texts))
    assert len(made) == 1
    return made[0]


def long_made_of(operation, *texts):
    """Return what an operation makes of texts of five to eight letters each, joined by steps before."""
    things = []
    steps = []
    for text in texts:
        steps.append(("join", (("thing", len(things)), ("thing", len(things) + 1))))
        things.extend([(text[:4],), (text[4:],)])
    steps.append((operation, tuple(("step", at) for at in range(len(texts)))))
    return texts_in((tuple(things), tuple(steps), (0,)), (), (0,) * len(things))[-1]


class Operations(unittest.TestCase):
    def told(self, operation, rows):
        for row in rows:
            with self.subTest(operation=operation, texts=row[:-1]):
                self.assertEqual(made_of(operation, *row[:-1]), row[-1])

    def test_join(self):
        self.told("join", [("ab", "cd", "abcd"), ("cd", "ab", "cdab"), ("", "x", "x"), ("x", "", "x"), ("", "", ""),
                           ("aa", "aa", "aaaa"), ("abcd", "dcba", "abcddcba")])

    def test_sort(self):
        self.told("sort", [("", ""), ("a", "a"), ("ba", "ab"), ("abab", "aabb"), ("zzzz", "zzzz"), ("dcba", "abcd"),
                           ("abcd", "abcd"), ("caca", "aacc")])

    def test_turn(self):
        self.told("turn", [("", ""), ("a", "a"), ("ab", "ba"), ("aab", "baa"), ("abcd", "dcba"), ("abba", "abba")])

    def test_first(self):
        self.told("first", [("", ""), ("a", "a"), ("ba", "b"), ("aab", "a"), ("dcba", "d")])

    def test_rest(self):
        self.told("rest", [("", ""), ("a", ""), ("ba", "a"), ("aab", "ab"), ("dcba", "cba"), ("zzzz", "zzz")])

    def test_less(self):
        self.told("less", [("", "", ""), ("", "ab", ""), ("ab", "", "ab"), ("abab", "a", "bb"), ("ab", "ab", ""),
                           ("dcba", "bd", "ca"), ("abca", "aa", "bc"), ("ba", "ab", ""), ("ab", "abc", ""),
                           ("zyzx", "q", "zyzx"), ("abcd", "cb", "ad"), ("a", "bcd", "a")])

    def test_same(self):
        self.told("same", [("", "", "y"), ("", "a", ""), ("a", "", ""), ("ab", "ab", "y"), ("ab", "ba", ""),
                           ("y", "y", "y"), ("a", "aa", ""), ("aa", "a", ""), ("abcd", "abcd", "y"), ("y", "n", "")])

    def test_pick(self):
        self.told("pick", [("y", "one", "two", "one"), ("", "one", "two", "two"), ("n", "", "two", ""),
                           ("", "one", "", ""), ("", "", "", ""), ("abcd", "ab", "ab", "ab"), ("", "", "two", "two"),
                           ("a", "one", "", "one")])

    def test_texts_longer_than_four_letters(self):
        self.assertEqual(long_made_of("join", "abcdefg", "hijkl"), "abcdefghijkl")
        self.assertEqual(long_made_of("sort", "zabzabza"), "aaabbzzz")
        self.assertEqual(long_made_of("turn", "abcdefgh"), "hgfedcba")
        self.assertEqual(long_made_of("first", "hgfedcba"), "h")
        self.assertEqual(long_made_of("rest", "hgfedcba"), "gfedcba")
        self.assertEqual(long_made_of("less", "abcdefgh", "hceab"), "dfg")
        self.assertEqual(long_made_of("same", "abcdefgh", "abcdefgh"), "y")
        self.assertEqual(long_made_of("same", "abcdefgh", "abcdefg"), "")
        self.assertEqual(long_made_of("same", "abcde", "abcdf"), "")

    def test_pick_with_long_texts(self):
        steps = (("join", (("thing", 0), ("thing", 0))), ("turn", (("step", 0),)))
        for first, expected in ((("step", 0), "abcdabcd"), (("thing", 1), "dcbadcba")):
            recipe = ((("abcd",), ("",)), steps + (("pick", (first, ("step", 0), ("step", 1))),), (2,))
            self.assertEqual(outcome(recipe, (), (0, 0)), (expected,))

    def test_the_longest_text(self):
        steps = [("join", (("thing", 0), ("thing", 0)))]
        for at in range(7):
            steps.append(("join", (("step", at), ("step", at))))
        recipe = ((("abcd",),), tuple(steps), (7,))
        self.assertEqual(outcome(recipe, (), (0,)), ("abcd" * 256,))
        self.assertEqual(texts_in(recipe, (), (0,)), tuple("abcd" * 2 ** many for many in range(1, 9)))


class Making(unittest.TestCase):
    def test_the_examples(self):
        self.assertEqual(texts_in(TWO, (), (0, 1)), ("ax", "x"))
        self.assertEqual(outcome(TWO, (("hide", 1, 0),), (0, 1)), ("ax",))

    def test_all_worlds_of_the_example(self):
        expected = {(0, 0): ("a", ""), (0, 1): ("ax", "x"), (1, 0): ("b", ""), (1, 1): ("bx", "x")}
        for world in worlds(TWO):
            self.assertEqual(texts_in(TWO, (), world), expected[world])
            self.assertEqual(outcome(TWO, (), world), expected[world][1:])

    def test_a_chain_of_all_operations(self):
        self.assertEqual(texts_in(WIDE, (), (2, 1, 0)), ("cabcab", "aabbcc", "ccbbaa", "b", "cbbaa", "c", "", ""))
        self.assertEqual(texts_in(WIDE, (), (0, 0, 0)), ("aa", "aa", "aa", "", "a", "a", "y", ""))
        self.assertEqual(texts_in(WIDE, (), (0, 1, 0)), ("aa", "aa", "aa", "b", "a", "", "", ""))
        self.assertEqual(texts_in(WIDE, (), (3, 1, 0)), ("zzzz", "zzzz", "zzzz", "b", "zzz", "zzz", "", ""))
        self.assertEqual(outcome(WIDE, (), (2, 1, 0)), ("cabcab", "c", ""))
        self.assertEqual(outcome(WIDE, (), (3, 0, 0)), ("zzzz", "zzz", ""))

    def test_the_sequence_of_readings(self):
        recipe = ((("a",), ("b",), ("c",)), (
            ("join", (("thing", 1), ("thing", 0))),
            ("join", (("step", 0), ("thing", 2))),
            ("join", (("thing", 2), ("step", 0))),
            ("join", (("step", 2), ("step", 1))),
            ("pick", (("thing", 2), ("step", 3), ("thing", 0))),
            ("less", (("step", 4), ("step", 0))),
        ), (5,))
        self.assertEqual(texts_in(recipe, (), (0, 0, 0)), ("ba", "bac", "cba", "cbabac", "cbabac", "cc"))

    def test_the_sequence_of_made(self):
        things = (("a", "b"), ("c",))
        steps = (("join", (("thing", 0), ("thing", 1))), ("turn", (("step", 0),)), ("first", (("step", 1),)))
        for many in (1, 2, 3):
            for made in itertools.combinations(range(3), many):
                expected = tuple(("bc", "cb", "c")[step] for step in made)
                self.assertEqual(outcome((things, steps, made), (), (1, 0)), expected)

    def test_the_kinds_of_values(self):
        for found in (texts_in(WIDE, (), (0, 0, 0)), outcome(WIDE, (), (0, 0, 0))):
            self.assertIs(type(found), tuple)
            for text in found:
                self.assertIs(type(text), str)

    def test_texts_and_outcome_agree_in_all_worlds(self):
        for world in worlds(WIDE):
            texts = texts_in(WIDE, (("hide", 5, 1),), world)
            self.assertEqual(len(texts), 8)
            self.assertEqual(outcome(WIDE, (("hide", 5, 1),), world), (texts[0], texts[5], texts[7]))


class Hidings(unittest.TestCase):
    THINGS = (("ab", "cd"), ("ef", "gh"))
    STEPS = (
        ("join", (("thing", 0), ("thing", 1))),
        ("join", (("thing", 0), ("thing", 0))),
        ("join", (("thing", 1), ("thing", 0))),
        ("join", (("step", 1), ("thing", 0))),
    )
    RECIPE = (THINGS, STEPS, (0, 3))

    def test_one_step_and_no_other_one(self):
        plain = ("abgh", "abab", "ghab", "ababab")
        self.assertEqual(texts_in(self.RECIPE, (), (0, 1)), plain)
        self.assertEqual(texts_in(self.RECIPE, (("hide", 0, 0),), (0, 1)), ("gh", "abab", "ghab", "ababab"))
        self.assertEqual(texts_in(self.RECIPE, (("hide", 0, 1),), (0, 1)), ("ab", "abab", "ghab", "ababab"))
        self.assertEqual(texts_in(self.RECIPE, (("hide", 2, 0),), (0, 1)), ("abgh", "abab", "gh", "ababab"))
        self.assertEqual(texts_in(self.RECIPE, (("hide", 2, 1),), (0, 1)), ("abgh", "abab", "ab", "ababab"))

    def test_each_reading_of_a_thing_that_is_read_twice(self):
        self.assertEqual(texts_in(self.RECIPE, (("hide", 1, 0),), (0, 1)), ("abgh", "", "ghab", "ab"))
        recipe = ((("a",), ("b",)), (("pick", (("thing", 0), ("thing", 1), ("thing", 0))),), (0,))
        self.assertEqual(outcome(recipe, (), (0, 0)), ("b",))
        self.assertEqual(outcome(recipe, (("hide", 0, 0),), (0, 0)), ("",))
        self.assertEqual(outcome(recipe, (("hide", 0, 1),), (0, 0)), ("",))
        thrice = ((("a",),), (("pick", (("thing", 0), ("thing", 0), ("thing", 0))),), (0,))
        self.assertEqual(outcome(thrice, (("hide", 0, 0),), (0,)), ("",))

    def test_readings_of_steps_stay(self):
        self.assertEqual(texts_in(self.RECIPE, (("hide", 3, 0),), (0, 1)), ("abgh", "abab", "ghab", "abab"))
        # Step 1 has the number of the thing that is hidden.
        steps = (("sort", (("thing", 1),)), ("turn", (("thing", 1),)), ("join", (("step", 1), ("thing", 1))))
        recipe = ((("ab",), ("cd",)), steps, (2,))
        self.assertEqual(texts_in(recipe, (("hide", 2, 1),), (0, 0)), ("cd", "dc", "dc"))

    def test_several_hidings(self):
        acts = (("hide", 0, 1), ("hide", 1, 0), ("hide", 2, 0), ("hide", 2, 1))
        self.assertEqual(texts_in(self.RECIPE, acts, (1, 0)), ("cd", "", "", "cd"))
        self.assertEqual(outcome(self.RECIPE, acts, (1, 0)), ("cd", "cd"))

    def test_under_a_hiding_each_operation_reads_the_empty_text(self):
        for operation, count, made in (
            ("join", 2, "b"), ("sort", 1, ""), ("turn", 1, ""), ("first", 1, ""), ("rest", 1, ""), ("less", 2, ""),
            ("same", 2, ""), ("pick", 3, "c"),
        ):
            reads = tuple(("thing", at) for at in range(count))
            recipe = ((("a",), ("b",), ("c",)), ((operation, reads),), (0,))
            self.assertEqual(outcome(recipe, (("hide", 0, 0),), (0, 0, 0)), (made,), operation)

    def test_a_hiding_of_an_empty_text_changes_nothing(self):
        self.assertEqual(texts_in(TWO, (("hide", 0, 1),), (1, 0)), texts_in(TWO, (), (1, 0)))

    def test_two_hidden_texts_are_the_same(self):
        recipe = ((("a",), ("b",)), (("same", (("thing", 0), ("thing", 1))),), (0,))
        self.assertEqual(outcome(recipe, (), (0, 0)), ("",))
        self.assertEqual(outcome(recipe, (("hide", 0, 0), ("hide", 0, 1)), (0, 0)), ("y",))


class Pins(unittest.TestCase):
    def test_a_pin_changes_no_text_in_a_world_that_is_left(self):
        for world in worlds(TWO):
            for acts in ((("pin", 0, world[0]),), (("pin", 1, world[1]),), (("pin", 0, world[0]), ("pin", 1, world[1]))):
                self.assertEqual(texts_in(TWO, acts, world), texts_in(TWO, (), world))
                self.assertEqual(outcome(TWO, acts, world), outcome(TWO, (), world))

    def test_pins_beside_hidings(self):
        acts = (("hide", 1, 0), ("pin", 0, 0), ("pin", 1, 1))
        self.assertEqual(texts_in(TWO, acts, (0, 1)), ("ax", "ax"))

    def test_a_world_that_is_not_left(self):
        for acts, world in (
            ((("pin", 0, 1),), (0, 1)),
            ((("pin", 1, 0),), (0, 1)),
            ((("pin", 0, 0), ("pin", 1, 0)), (0, 1)),
            ((("pin", 0, 1), ("pin", 1, 1)), (0, 1)),
            ((("hide", 0, 0), ("pin", 0, 1)), (0, 1)),
            ((("pin", 0, 0), ("pin", 0, 1)), (0, 1)),
            ((("pin", 0, 0), ("pin", 0, 1)), (1, 1)),
        ):
            for make in (texts_in, outcome):
                with self.assertRaises(NotLeft):
                    make(TWO, acts, world)

    def test_exactly_the_worlds_with_the_texts_of_all_pins_are_left(self):
        pins = tuple(("pin", thing, text) for thing in range(2) for text in range(2))
        for many in range(5):
            for acts in itertools.combinations(pins, many):
                for world in worlds(TWO):
                    left = all(world[thing] == text for _, thing, text in acts)
                    for make in (texts_in, outcome):
                        if left:
                            self.assertEqual(make(TWO, acts, world), make(TWO, (), world))
                        else:
                            with self.assertRaises(NotLeft):
                                make(TWO, acts, world)

    def test_hidings_leave_all_worlds(self):
        acts = (("hide", 0, 0), ("hide", 0, 1), ("hide", 1, 0))
        for world in worlds(TWO):
            self.assertEqual(texts_in(TWO, acts, world), ("", ""))


class Wrong(unittest.TestCase):
    RECIPES = [TWO[:2], None, list(TWO), (TWO[0], TWO[1], (True,))]
    ACTS = [None, [], (("hide", 1, 1),), (("pin", 0, 2),), (("pin", 0, 0), ("hide", 0, 0)), (("pin", 0, False),)]
    WORLDS = [None, (), (0,), (0, 0, 0), (0, 2), (2, 0), (-1, 0), [0, 0]]

    def refused(self, error, recipe, acts, world):
        for make in (texts_in, outcome):
            with self.assertRaises(error) as caught:
                make(recipe, acts, world)
            self.assertIs(type(caught.exception), error)

    def test_what_is_not_a_recipe(self):
        for value in not_recipes() + odd_values() + [value for _, value in spoiled(TWO)]:
            self.refused(InvalidRecipe, value, (), (0, 0))

    def test_what_are_not_acts(self):
        acts = (("hide", 0, 1), ("pin", 0, 0))
        for value in self.ACTS + odd_values() + [value for _, value in spoiled(acts)]:
            self.refused(InvalidActs, TWO, value, (0, 0))

    def test_what_is_not_a_world(self):
        for value in self.WORLDS + odd_values() + [value for _, value in spoiled((0, 0))]:
            self.refused(InvalidWorld, TWO, (), value)

    def test_worlds_too_short_and_too_long(self):
        for many in range(6):
            if many != 3:
                self.refused(InvalidWorld, WIDE, (), (0,) * many)

    def test_worlds_with_numbers_out_of_range(self):
        for world in itertools.product(range(-5, 6), range(-5, 6), range(-2, 3)):
            if 0 <= world[0] < 4 and 0 <= world[1] < 2 and world[2] == 0:
                self.assertEqual(len(texts_in(WIDE, (), world)), 8)
            else:
                self.refused(InvalidWorld, WIDE, (), world)

    def test_true_and_false_are_no_numbers_of_texts(self):
        for world in ((True, 0), (False, 0), (0, True), (0, False), (True, True), (False, False)):
            self.refused(InvalidWorld, TWO, (), world)

    def test_texts_and_lists_are_no_worlds(self):
        for world in (("a", "x"), "ax", [0, 0], ([0], 0), (0, (0,)), {0: 0, 1: 0}, range(2)):
            self.refused(InvalidWorld, TWO, (), world)

    def test_the_recipe_is_refused_first(self):
        for recipe in self.RECIPES:
            for acts in self.ACTS + [(), (("pin", 0, 0),)]:
                for world in self.WORLDS + [(0, 0), (1, 0)]:
                    self.refused(InvalidRecipe, recipe, acts, world)

    def test_the_acts_are_refused_second(self):
        for acts in self.ACTS + [(("pin", 0, 1), ("pin", 1, 2)), (Strange(),)]:
            for world in self.WORLDS + [(0, 0), (1, 0)]:
                self.refused(InvalidActs, TWO, acts, world)

    def test_the_world_is_refused_third(self):
        for acts in ((("pin", 0, 1),), (("pin", 0, 0), ("pin", 0, 1)), (("pin", 1, 1),)):
            for world in self.WORLDS + [(True, False), (False, False), ("a", "x"), (None, None), (Strange(), 0)]:
                self.refused(InvalidWorld, TWO, acts, world)

    def test_a_world_that_is_not_left_is_refused_last(self):
        self.refused(NotLeft, TWO, (("pin", 0, 1),), (0, 0))

    def test_no_argument_is_modified(self):
        recipe = copy.deepcopy(WIDE)
        acts = (("hide", 0, 0), ("hide", 7, 1), ("pin", 0, 2))
        before = copy.deepcopy(acts)
        world = (2, 1, 0)
        texts_in(recipe, acts, world)
        outcome(recipe, acts, world)
        self.assertEqual((recipe, acts, world), (WIDE, before, (2, 1, 0)))
        for wrong in ([[0], 1], {0: [1]}, ([0], [1])):
            before = copy.deepcopy(wrong)
            self.refused(InvalidRecipe, wrong, (), (0, 0))
            self.refused(InvalidActs, TWO, wrong, (0, 0))
            self.refused(InvalidWorld, TWO, (), wrong)
            self.assertEqual(wrong, before)


if __name__ == "__main__":
    unittest.main()

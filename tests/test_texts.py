"""format_recipe and parse_recipe: points [1], [2] and [18]."""

import copy
import random
import unittest

from samebuilds.errors import InvalidRecipe, ParseError
from samebuilds.recipes import is_recipe
from samebuilds.texts import format_recipe, parse_recipe
from tests.plain import plain_format, some_recipe
from tests.values import LARGE, TWO, WIDE, Strange, nested, not_recipes, odd_values, refused, spoiled

TEXT = "a|b, -|x; join t0 t1, less s0 t0; 1"
ALL = "a|b|c, x; join t0 t1, sort t0, turn s0, first s1, rest s2, less s0 t1, same t1 s5, pick s4 t0 s6; 0, 3, 7"
# Signs that stand in texts of recipes, and a few others.
SIGNS = "abjtsz0123456789-|,; +\t\n_AZ\u00e4\u0663\u00b2"

# The text of something that is no recipe, for each bound of point [2] and more.
BEYOND = [
    # Things: none, too many, a letter or a length that no text has, texts that do not ascend, too many of them.
    "; sort t0; 0", "a, a, a, a, a, a; sort t0; 0", "A; sort t0; 0", "a1; sort t0; 0", "abcde; sort t0; 0",
    "a|a; sort t0; 0", "b|a; sort t0; 0", "a|-; sort t0; 0", "-|-; sort t0; 0", "a|b|c|d|e; sort t0; 0",
    "a|b|c|d, a|b|c|d, a|b|c|d, a|b|c|d, a|b; sort t0; 0", "\u00e4; sort t0; 0", "a b; sort t0; 0",
    # Steps: none, too many, an unknown operation, other readings than it has, readings that are not there.
    "a; ; 0", "a; " + ", ".join(["sort t0"] * 9) + "; 0", "a; shuffle t0; 0", "a; Sort t0; 0", "a; sor t0; 0",
    "a; sort; 0", "a; sort t0 t0; 0", "a; join t0; 0", "a; join t0 t0 t0; 0", "a; pick t0 t0; 0",
    "a; pick t0 t0 t0 t0; 0", "a; sort t1; 0", "a; sort t9; 0", "a; sort s0; 0", "a; sort s1, sort t0; 0",
    "a; sort t0, sort s1; 0", "a; sort x0; 0", "a; sort T0; 0", "a; sort 0; 0", "a; sort t; 0", "a; sort 0t; 0",
    "a; sort tt0; 0", "a; t0 sort; 0", "a; t0; 0",
    # Made: none, too many, numbers that do not ascend, or of no step.
    "a; sort t0; ", "a; sort t0; 1", "a; sort t0; 0, 0", "a; sort t0, sort t0; 1, 0", "a; sort t0; -1",
    "a; sort t0, sort t0, sort t0, sort t0; 0, 1, 2, 3", "a; sort t0; s0", "a; sort t0; a", "a; sort t0; 10",
    "a; sort t0; " + "9" * 5000, "a; sort t" + "9" * 5000 + "; 0", "a; sort t0; " + "0" * 5000,
]

# Texts that are near to those of recipes, but written otherwise.
NEAR = [
    # Numbers with a leading zero, a sign or a space, and other digits.
    "a; sort t00; 0", "a; sort t0; 00", "a; sort t01; 0", "a; sort t0; +0", "a; sort t+0; 0", "a; sort t-0; 0",
    "a; sort t0; -0", "a; sort t 0; 0", "a; sort t0; 0_0", "a; sort t\u0660; 0", "a; sort t0; \u0660",
    "a; sort t0; \u00b2", "a; sort t0; 0.0", "a; sort t0; 0x0", "a; sort t0; 0, 01",
    # A space more or fewer, other spaces.
    " a; sort t0; 0", "a; sort t0; 0 ", "a ; sort t0; 0", "a;  sort t0; 0", "a; sort t0 ; 0", "a; sort  t0; 0",
    "a; sort t0;  0", "a;sort t0; 0", "a; sort t0;0", "a; sortt0; 0", "a,b; sort t0; 0", "a,  b; sort t0; 0",
    "a , b; sort t0; 0", "a| b; sort t0; 0", "a |b; sort t0; 0", "a; sort\tt0; 0", "a;\nsort t0; 0", "a; sort t0; 0\n",
    "\na; sort t0; 0", "a;\u00a0sort t0; 0", "a; sort t0,sort t0; 0", "a; sort t0, sort t0; 0,1",
    # Other signs between parts, things and texts, or one too many.
    "a, sort t0, 0", "a: sort t0: 0", "a; sort t0, 0", "a/b; sort t0; 0", "a||b; sort t0; 0", "a|b|; sort t0; 0",
    "|a; sort t0; 0", "|; sort t0; 0", "a, ; sort t0; 0", ", a; sort t0; 0", "a; sort t0, ; 0", "a; , sort t0; 0",
    "a; sort t0; 0, ", "a; sort t0; , 0", "a; sort t0; 0; ", "; a; sort t0; 0", "a; sort t0; 0;", "(a); sort t0; 0",
    "a; sort(t0); 0", "a; sort t0; (0)", "'a'; sort t0; 0", "a; sort t0; [0]",
    # An empty text as nothing, or as several signs.
    "|x; sort t0; 0", "; sort t0; 0", "--; sort t0; 0", "--|x; sort t0; 0", "_; sort t0; 0", "'' ; sort t0; 0",
    "a-; sort t0; 0", "-a; sort t0; 0",
    # Parts fewer or more, or in another sequence.
    "", ";", "; ", "; ; ", "a", "a; sort t0", "sort t0; 0", "a; 0", "a; sort t0; 0; 0", "a; a; sort t0; 0",
    "sort t0; a; 0", "0; sort t0; a", "a; 0; sort t0", "a; sort t0; 0a; sort t0; 0",
]


class Format(unittest.TestCase):
    def test_the_example(self):
        self.assertEqual(format_recipe(TWO), TEXT)
        self.assertIs(type(format_recipe(TWO)), str)

    def test_an_empty_text(self):
        for things, expected in (((("",),), "-"), ((("", "a"),), "-|a"), ((("a",), ("",)), "a, -"),
                                 ((("",), ("", "x"), ("",)), "-, -|x, -")):
            recipe = (things, (("sort", (("thing", 0),)),), (0,))
            self.assertEqual(format_recipe(recipe), expected + "; sort t0; 0")

    def test_every_operation(self):
        self.assertEqual(format_recipe(WIDE), "a|ab|cab|zz, -|ba, q; join t0 t0, sort s0, turn s1, first t1, rest s2, "
                                              "less s4 t1, same s5 t0, pick s3 s6 t1; 0, 5, 7")

    def test_a_large_recipe(self):
        self.assertEqual(format_recipe(LARGE), "a|b|c|d, a|b|c|d, a|b|c|d, a|b|c|d, dddd; join t0 t1, join t2 t3, "
                         "join s0 s1, same s2 t4, pick t0 t1 t2, pick t1 t2 t3, join t0 t3, join s4 s5; 3")

    def test_many(self):
        chance = random.Random(110)
        for _ in range(200):
            recipe = some_recipe(chance)
            self.assertEqual(format_recipe(recipe), plain_format(recipe))

    def test_what_is_no_recipe(self):
        for value in not_recipes() + odd_values() + [TEXT] + [value for _, value in spoiled(TWO)]:
            refused(self, InvalidRecipe, format_recipe, value)

    def test_no_argument_is_modified(self):
        before = copy.deepcopy(TWO)
        format_recipe(TWO)
        self.assertEqual(TWO, before)
        for wrong in (list(TWO), [[0], 1], {0: [1]}):
            before = copy.deepcopy(wrong)
            refused(self, InvalidRecipe, format_recipe, wrong)
            refused(self, ParseError, parse_recipe, wrong)
            self.assertEqual(wrong, before)


class Parse(unittest.TestCase):
    def test_the_examples(self):
        self.assertEqual(parse_recipe("a; sort t0; 0"), ((("a",),), (("sort", (("thing", 0),)),), (0,)))
        self.assertEqual(parse_recipe(TEXT), TWO)
        self.assertEqual(repr(parse_recipe(TEXT)), repr(TWO))

    def test_an_empty_text(self):
        self.assertEqual(parse_recipe("-; sort t0; 0"), ((("",),), (("sort", (("thing", 0),)),), (0,)))
        self.assertEqual(parse_recipe("-|a, b, -; sort t2; 0")[0], (("", "a"), ("b",), ("",)))

    def test_every_operation(self):
        recipe = parse_recipe(ALL)
        self.assertEqual(recipe, ((("a", "b", "c"), ("x",)), (
            ("join", (("thing", 0), ("thing", 1))), ("sort", (("thing", 0),)), ("turn", (("step", 0),)),
            ("first", (("step", 1),)), ("rest", (("step", 2),)), ("less", (("step", 0), ("thing", 1))),
            ("same", (("thing", 1), ("step", 5))), ("pick", (("step", 4), ("thing", 0), ("step", 6))),
        ), (0, 3, 7)))
        self.assertEqual(format_recipe(recipe), ALL)

    def test_the_bounds_themselves(self):
        for text in ("abcd; sort t0; 0", "a, a, a, a, a; sort t4; 0", "a|b|c|d, a|b|c|d, a|b|c|d, a|b|c|d; sort t0; 0",
                     "a; " + ", ".join(["sort t0"] * 8) + "; 5, 6, 7", "a; sort t0, sort s0; 0, 1"):
            self.assertEqual(format_recipe(parse_recipe(text)), text)

    def test_recipes_are_read_back_as_they_were(self):
        chance = random.Random(111)
        for recipe in [TWO, WIDE, LARGE] + [some_recipe(chance) for _ in range(300)]:
            found = parse_recipe(format_recipe(recipe))
            self.assertEqual(found, recipe)
            self.assertEqual(repr(found), repr(recipe))

    def test_texts_of_what_is_beyond_a_bound(self):
        for text in BEYOND:
            refused(self, ParseError, parse_recipe, text)

    def test_texts_that_are_written_otherwise(self):
        for text in NEAR:
            refused(self, ParseError, parse_recipe, text)

    def test_upper_letters(self):
        for text in (TEXT.upper(), "a; SORT t0; 0", "a; sort S0; 0", "A; sort t0; 0"):
            refused(self, ParseError, parse_recipe, text)

    def test_one_sign_more_or_fewer_or_another_one(self):
        near = []
        for text in (TEXT, ALL, "-; sort t0; 0"):
            for at in range(len(text) + 1):
                near.append(text[:at] + text[at + 1:])
                for sign in SIGNS:
                    near.append(text[:at] + sign + text[at:])
                    near.append(text[:at] + sign + text[at + 1:])
        right = 0
        for text in near:
            # The text of a recipe or none: what is read is a recipe with this very text.
            try:
                recipe = parse_recipe(text)
            except ParseError as error:
                self.assertIs(type(error), ParseError)
            else:
                self.assertIs(is_recipe(recipe), True)
                self.assertEqual(plain_format(recipe), text)
                right += 1
        self.assertGreater(right, 100)
        self.assertLess(right, len(near) // 2)

    def test_texts_of_random_parts(self):
        chance = random.Random(112)
        words = ["a", "b", "-", "|", ", ", "; ", " ", "t0", "s0", "0", "1", "sort", "join", "00", ""]
        for _ in range(3000):
            text = "".join(chance.choice(words) for _ in range(chance.randint(0, 12)))
            try:
                recipe = parse_recipe(text)
            except ParseError:
                continue
            self.assertEqual(plain_format(recipe), text)

    def test_long_texts(self):
        for text in ("a" * 100000, "a|" * 100000, "; " * 100000, ", " * 100000, "a; sort" + " t0" * 100000 + "; 0",
                     "a; " + "sort t0, " * 100000 + "; 0", "a; sort t0; " + "0, " * 100000):
            refused(self, ParseError, parse_recipe, text)

    def test_what_is_no_text(self):
        for value in odd_values() + [
                TWO, TEXT.encode(), bytearray(TEXT.encode()), [TEXT], (TEXT,), {TEXT: 1}, None, True, 0, 1, -1, [], (),
                {}, list(TEXT), tuple(TEXT), TEXT.split("; "), nested(30, list), nested(30, tuple), Strange()]:
            refused(self, ParseError, parse_recipe, value)


if __name__ == "__main__":
    unittest.main()

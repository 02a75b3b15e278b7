import re
import unittest
from itertools import product
from random import Random

from besideweb.errors import BadText
from besideweb.notes import read
from besideweb.trees import Across, Beside, Point, Tree, web_of
from helper import chance_plans, every_plan, plan_of, plan_told, plan_web

SIGNS = "".join(map(chr, range(32, 127))) + "\t\n"

# A text and the place of the first sign that isn't due in it.
REFUSED = [
    ("", 0), ("(", 1), ("((", 2), ("(0", 2), ("(0+", 3), ("(0*", 3), ("(0+1", 4), ("((0+1)", 6), ("(0+(1*2)", 8),
    ("(0+(1*2", 7), ("(0+(", 4),
    ("+", 0), ("*", 0), (")", 0), ("a", 0), ("o", 0), (" ", 0), ("\n", 0), ("\t", 0), ("-1", 0), ("~", 0), ("[0+1]", 0),
    (" 0", 0), ("()", 1), ("(+0)", 1), ("(*", 1), ("( 0+1)", 1), ("(a+1)", 1), ("((+", 2), ("(()+1)", 2),
    ("(0++1)", 3), ("(0+*1)", 3), ("(0+)", 3), ("(0*)", 3), ("(0+ 1)", 3), ("(0+1+)", 5), ("(0+a)", 3),
    ("00", 1), ("01", 1), ("10", 1), ("0 ", 1), ("0\n", 1), ("0+1", 1), ("0)", 1), ("0(", 1), ("0*", 1),
    ("(0+1))", 5), ("(0+1)+2", 5), ("(0+1)2", 5), ("(0+1)(2+3)", 5), ("(0+1) ", 5), ("(0+1)\n", 5), ("(0*1)*(2*3)", 5),
    ("(0)", 2), ("((0))", 3), ("((0+1))", 6), ("((0)+1)", 3), ("(0+(1))", 5), ("(((0*1)*2))", 10),
    ("(01)", 2), ("(0(", 2), ("(0 +1)", 2), ("(0-1)", 2), ("(0,1)", 2), ("(0\t", 2), ("(0+11)", 4), ("(0+1(", 4),
    ("(0+1 )", 4), ("((0+1)2", 6), ("((0+1)(", 6), ("(0+(1*2)(", 8),
    ("(0+1*2)", 4), ("(0*1+2)", 4), ("(0+1+2*3)", 6), ("(0*1*2+3)", 6), ("(0+(1*2)*3)", 8), ("((0+1)*2+3)", 8),
    ("(0+(1*2+3))", 7), ("((0*1)+2*3)", 8),
    ("(0+0)", 3), ("(3*3)", 3), ("(0+1+0)", 5), ("(0+(1*0))", 6), ("((0*1)+(2*1))", 10),
    ("(0+1+2+3+4+5+6+7+8+9+9)", 21), ("(0+1+2+3+4+5+6+7+8+9+(0", 22),
]


def place_refused(text):
    """The place of the first sign that isn't due, the text's length if it ends too early, None if it is read."""
    for place in range(len(text)):
        if not may_go_on(text[:place + 1]):
            return place
    return None if folded(text) == "T" else len(text)


def folded(text):
    """The text with T for each tree that is whole."""
    text, before = re.sub("[0-9]", "T", text), None
    while text != before:
        text, before = re.sub(r"\(T(\+T)+\)|\(T(\*T)+\)", "T", text), text
    return text


def may_go_on(text):
    """Whether each sign of the text was due, told from what is left when whole trees are folded."""
    figures = re.findall("[0-9]", text)
    if "T" in text or len(set(figures)) != len(figures):
        return False
    return re.fullmatch(r"(\((T\+)*|\((T\*)*)*T?", folded(text)) is not None


class Read(unittest.TestCase):
    def check_read(self, plan):
        text = plan_told(plan)
        tree = read(text)
        self.assertIsInstance(tree, Tree)
        self.assertEqual(plan_of(tree), plan)
        self.assertEqual(tree.told(), text)

    def test_a_point_alone(self):
        for number in range(10):
            tree = read(str(number))
            self.assertEqual((tree.__class__, tree.at), (Point, number))

    def test_doings(self):
        tree = read("(3+1+4)")
        self.assertEqual(tree.__class__, Beside)
        self.assertEqual([inner.at for inner in tree.trees], [3, 1, 4])
        tree = read(text="(3*1)")
        self.assertEqual(tree.__class__, Across)
        self.assertEqual([inner.at for inner in tree.trees], [3, 1])

    def test_the_documents_text(self):
        tree = read("(0+(1*2)+3)")
        self.assertEqual(plan_of(tree), ("+", 0, ("*", 1, 2), 3))
        self.assertEqual(web_of(tree), [0, 4, 2, 0])

    def test_the_order_and_the_depth_stay(self):
        for text in ("(2+(1+0))", "((9*8)*7)", "((3*2)+(1*0))", "((((0+1)+2)+3)+4)", "(4*(3*(2*(1*0))))", "(9+(0*5))"):
            self.assertEqual(read(text).told(), text)

    def test_every_tree_of_up_to_four_points(self):
        for count in range(1, 5):
            for plan in every_plan(tuple(range(count))):
                self.check_read(plan)

    def test_points_that_are_not_0_to_one_below_their_count(self):
        for plan in every_plan((9, 4, 7)):
            self.check_read(plan)

    def test_greater_trees(self):
        for plan in chance_plans(5, 10, 20):
            self.check_read(plan)
            self.assertEqual(web_of(read(plan_told(plan))), plan_web(plan))

    def test_as_deep_as_ten_points_go(self):
        self.check_read(("*", 9, ("+", 8, ("*", 7, ("+", 6, ("*", 5, ("+", 4, ("*", 3, ("+", 2, ("*", 1, 0))))))))))
        self.check_read(("+", ("+", ("+", ("+", ("+", ("+", ("+", ("+", ("+", 0, 1), 2), 3), 4), 5), 6), 7), 8), 9))

    def test_each_reading_is_a_tree_of_its_own(self):
        first, kept = read("(0+(1*2))"), read("(0+(1*2))")
        first.trees[1].trees.clear()
        first.trees.clear()
        self.assertEqual(plan_of(kept), ("+", 0, ("*", 1, 2)))
        self.assertEqual(plan_of(read("(0+(1*2))")), ("+", 0, ("*", 1, 2)))


class ReadRefused(unittest.TestCase):
    def check_refused(self, text, place):
        with self.assertRaises(BadText) as caught:
            read(text)
        self.assertEqual(caught.exception.__class__, BadText)
        self.assertEqual(caught.exception.place, place, text)

    def check_either(self, text):
        """Hold what reading the text comes to against place_refused."""
        wanted = place_refused(text)
        if wanted is None:
            self.assertEqual(read(text).told(), text)
        else:
            self.check_refused(text, wanted)

    def test_each_sort_of_wrong_sign_and_of_end(self):
        for text, place in REFUSED:
            with self.subTest(text=text):
                self.check_refused(text, place)
                self.assertEqual(place_refused(text), place)

    def test_what_is_no_text(self):
        for wrong in (None, 0, 1, True, False, [], ["0"], ("0",), {}, 1.0, b"0", b"(0+1)", Point(0), ["0"] * 200):
            self.check_refused(wrong, 0)

    def test_texts_of_100_and_of_101_signs(self):
        self.check_refused("(" * 100, 100)
        self.check_refused("(" * 101, 100)
        self.check_refused("(" * 99, 99)
        self.check_refused("x" * 100, 0)
        self.check_refused("x" * 101, 100)
        self.check_refused("0" + " " * 99, 1)
        self.check_refused("0" + " " * 100, 100)
        self.check_refused("0" * 1000, 100)
        self.check_refused("(0+1)" + ")" * 95, 5)
        self.check_refused("(0+1)" + ")" * 96, 100)

    def test_deep_brackets(self):
        self.check_refused("(" * 50 + ")" * 50, 50)
        self.check_refused("(" * 50 + "0" + ")" * 49, 51)
        self.check_refused("(" * 90 + "(0+1))", 95)
        self.check_refused("(" * 90 + "(0+1)+2)", 98)
        self.check_refused("(" * 90 + "(0+1)+2)*", 99)
        self.check_refused("(" * 97 + "0+1", 100)
        self.check_refused("(" * 96 + "0+1)", 100)
        self.check_refused("(" * 99 + "+", 99)

    def test_an_opening_bracket_is_due_when_all_figures_have_come(self):
        self.check_refused("(0+1+2+3+4+5+6+7+8+9+((((", 25)
        self.check_refused("(0+1+2+3+4+5+6+7+8+9+((((5", 25)

    def test_each_sign_at_each_place(self):
        text = "((0+1)*(2+3))"
        for place in range(len(text)):
            for sign in SIGNS:
                self.check_either(text[:place] + sign + text[place + 1:])

    def test_each_part_of_a_text_and_each_sign_behind_the_whole(self):
        text = "(0+(1*2)+(3*(4+5)))"
        for end in range(len(text)):
            self.check_refused(text[:end], end)
        for sign in SIGNS:
            self.check_refused(text + sign, len(text))

    def test_every_short_text(self):
        for length in range(6):
            for signs in product("01(+*)", repeat=length):
                self.check_either("".join(signs))

    def test_longer_texts_with_one_sign_put_in_or_left_out(self):
        chance = Random(23)
        for plan in chance_plans(4, 10, 12):
            text = plan_told(plan)
            for place in range(len(text)):
                sign = chance.choice("0123456789(()+*) ")
                self.check_either(text[:place] + text[place + 1:])
                self.check_either(text[:place] + sign + text[place:])


if __name__ == "__main__":
    unittest.main()

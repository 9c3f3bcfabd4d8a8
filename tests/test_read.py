"""read_chart: points 5, 6 and 7."""

import unittest

from deepstands.errors import NoText
from deepstands.texts import places_of, read_chart

from helpers import YES, move, one, stand


def root_of(*rows):
    """The root of a text of these rows."""
    return read_chart(list(rows))[2]


def guard_of(words):
    return root_of("leaf r", f"  go done if {words}")[5][0][1]


def term_of(words):
    return root_of("leaf r", f"  into say s {words}")[3][0][2]


def fact_of(words):
    return read_chart([f"fact {words}", "leaf r"])[0][0]


N1, N2, N3 = ("num", 1), ("num", 2), ("num", 3)
A, B, C = ("fact", "a"), ("fact", "b"), ("fact", "c")
IN_A, IN_B, IN_C = ("in", "a"), ("in", "b"), ("in", "c")


class TestReadWholes(unittest.TestCase):
    def test_all_that_a_text_may_have(self):
        text = [
            "fact n 0 9 3", "fact m -5 5 0", "on h", "on k",
            "all r",
            "  into set n 1",
            "  out raise h, say s n",
            "  go on h",
            "  one p",
            "    go done if in q do set n 0 to x, y",
            "    leaf q",
            "      go after 12 to e",
            "    end e",
            "    back b",
            "    deep d",
            "  leaf x",
        ]
        p = one(
            "p", stand("q", moves=[move(("after", 12), goals=["e"])]), stand("e", "end"), stand("b", "back"),
            stand("d", "deep"),
            moves=[(("done",), ("in", "q"), (("set", "n", ("num", 0)),), ("x", "y"))],
        )
        root = (
            "r", "all", (p, stand("x")), (("set", "n", N1),), (("raise", "h"), ("say", "s", ("fact", "n"))),
            ((("on", "h"), YES, (), ()),),
        )
        self.assertEqual(read_chart(text), ((("n", 0, 9, 3), ("m", -5, 5, 0)), ("h", "k"), root))

    def test_the_least_text(self):
        self.assertEqual(read_chart(["leaf a"]), ((), (), ("a", "leaf", (), (), (), ())))

    def test_nothing_else_is_looked_at(self):
        self.assertEqual(read_chart(["back tick"]), ((), (), stand("tick", "back")))
        self.assertEqual(read_chart(["one r"]), ((), (), stand("r", "one")))
        text = ["fact a 5 1 9", "fact a 5 1 9", "on tick", "one r", "  go after 0 to zz, zz", "  all r", "  back c",
                "  back d"]
        root = one("r", stand("r", "all"), stand("c", "back"), stand("d", "back"),
                   moves=[move(("after", 0), goals=["zz", "zz"])])
        self.assertEqual(read_chart(text), ((("a", 5, 1, 9), ("a", 5, 1, 9)), ("tick",), root))

    def test_stands_may_come_back_several_depths(self):
        root = root_of("one a", "  one b", "    one c", "      leaf d", "  leaf e", "  all f", "    leaf g")
        wanted = one("a", one("b", one("c", stand("d"))), stand("e"), stand("f", "all", [stand("g")]))
        self.assertEqual(root, wanted)

    def test_moves_may_have_any_of_their_parts(self):
        root = root_of(
            "leaf r", "  go done", "  go done if in a", "  go done do raise h", "  go done to x",
            "  go done if in a do raise h", "  go done if in a to x", "  go done do raise h to x, y",
        )
        deeds = (("raise", "h"),)
        self.assertEqual(root[5], (
            (("done",), YES, (), ()), (("done",), IN_A, (), ()), (("done",), YES, deeds, ()),
            (("done",), YES, (), ("x",)), (("done",), IN_A, deeds, ()), (("done",), IN_A, (), ("x",)),
            (("done",), YES, deeds, ("x", "y")),
        ))

    def test_leafs_and_ends_have_deeds_and_moves(self):
        for sort in ("leaf", "end", "one", "all"):
            root = root_of(f"{sort} r", "  into raise h", "  out raise k", "  go on h")
            self.assertEqual(root, ("r", sort, (), (("raise", "h"),), (("raise", "k"),), (move(),)))
            self.assertEqual(root_of(f"{sort} r", "  out raise k")[3:], ((), (("raise", "k"),), ()))


class TestReadWords(unittest.TestCase):
    def test_more_blanks_and_fewer(self):
        wanted = read_chart(["fact a 0 9 1", "on h", "one r", "  into set a (a - 1) + 2, raise h",
                             "  go on h if not (a < 1) or a = 2 do say s a to x, y"])
        text = ["fact   a  0 9   1   ", "on  h ", "one    r", "  into set a(a-1)+2,raise h",
                "  go on h if not(a<1)or a=2 do say s a to x,y"]
        self.assertEqual(read_chart(text), wanted)
        text[3] = "  into  set a ( a - 1 ) + 2 , raise   h  "
        text[4] = "  go on h if not ( a  <  1 )  or  a = 2 do say s a to x , y   "
        self.assertEqual(read_chart(text), wanted)

    def test_rows_passed_over(self):
        wanted = read_chart(["on h", "one r", "  leaf a"])
        text = ["", "--", "on h", "   ", "-- fact", "one r", "     -- odd", "  --- x", "", "  leaf a", " "]
        self.assertEqual(read_chart(text), wanted)

    def test_only_a_row_that_begins_so_is_passed_over(self):
        with self.assertRaises(NoText) as caught:
            read_chart(["- - a", "leaf r"])
        self.assertEqual((caught.exception.row, caught.exception.column), (1, 1))
        self.assertEqual(term_of("1 - 2"), ("less", N1, N2))

    def test_signed_numbers_of_facts(self):
        self.assertEqual(fact_of("a -5 5 0"), ("a", -5, 5, 0))
        self.assertEqual(fact_of("a - 5 - 2 -   3"), ("a", -5, -2, -3))
        self.assertEqual(fact_of("a-5-2-3"), ("a", -5, -2, -3))
        self.assertEqual(fact_of("a -0 0 - 0"), ("a", 0, 0, 0))
        self.assertEqual(fact_of("a -999999999 999999999 10"), ("a", -999999999, 999999999, 10))

    def test_names(self):
        for name in ("a", "z", "a1", "abcdefgh", "a1234567", "tick", "ones", "one1", "onx", "begin", "go1", "inn"):
            self.assertEqual(root_of(f"leaf {name}")[0], name)
            self.assertEqual(term_of(f"{name}-1"), ("less", ("fact", name), N1))

    def test_numbers(self):
        for number in (0, 1, 10, 909, 999999999, 100000000):
            self.assertEqual(term_of(str(number)), ("num", number))
            self.assertEqual(root_of("leaf r", f"  go after {number}")[5][0][0], ("after", number))


class TestReadTermsAndGuards(unittest.TestCase):
    def test_terms_go_from_the_left(self):
        self.assertEqual(term_of("1 - 2 + 3"), ("sum", ("less", N1, N2), N3))
        self.assertEqual(term_of("1 - (2 + 3)"), ("less", N1, ("sum", N2, N3)))
        self.assertEqual(term_of("(1 - 2) + a"), ("sum", ("less", N1, N2), A))
        self.assertEqual(term_of("((a))"), A)
        self.assertEqual(term_of("1 - ((2)) - (a)"), ("less", ("less", N1, N2), A))

    def test_guards(self):
        self.assertEqual(guard_of("yes"), YES)
        self.assertEqual(guard_of("in a"), IN_A)
        self.assertEqual(guard_of("1 < a"), ("below", N1, A))
        self.assertEqual(guard_of("a + 1 = b - 2"), ("same", ("sum", A, N1), ("less", B, N2)))
        self.assertEqual(guard_of("not a < 1"), ("not", ("below", A, N1)))
        self.assertEqual(guard_of("not not in a"), ("not", ("not", IN_A)))

    def test_and_goes_ahead_of_or(self):
        self.assertEqual(guard_of("in a or in b and in c"), ("either", IN_A, ("both", IN_B, IN_C)))
        self.assertEqual(guard_of("in a and in b or in c"), ("either", ("both", IN_A, IN_B), IN_C))
        self.assertEqual(guard_of("(in a or in b) and in c"), ("both", ("either", IN_A, IN_B), IN_C))
        self.assertEqual(guard_of("not in a and in b"), ("both", ("not", IN_A), IN_B))
        self.assertEqual(guard_of("not (in a and in b)"), ("not", ("both", IN_A, IN_B)))

    def test_and_and_or_go_from_the_left(self):
        self.assertEqual(guard_of("in a and in b and in c"), ("both", ("both", IN_A, IN_B), IN_C))
        self.assertEqual(guard_of("in a or in b or in c"), ("either", ("either", IN_A, IN_B), IN_C))
        self.assertEqual(guard_of("in a or (in b or in c)"), ("either", IN_A, ("either", IN_B, IN_C)))
        self.assertEqual(guard_of("in a and (in b and in c)"), ("both", IN_A, ("both", IN_B, IN_C)))

    def test_brackets_that_could_begin_both(self):
        self.assertEqual(guard_of("(a) < 1"), ("below", A, N1))
        self.assertEqual(guard_of("(a < 1)"), ("below", A, N1))
        self.assertEqual(guard_of("((a) < 1)"), ("below", A, N1))
        self.assertEqual(guard_of("((a)) = (1)"), ("same", A, N1))
        self.assertEqual(guard_of("(a) + 1 < 2"), ("below", ("sum", A, N1), N2))
        self.assertEqual(guard_of("((a) - 1) < 2"), ("below", ("less", A, N1), N2))
        self.assertEqual(guard_of("((a + 1) - (b)) - c = 2"),
                         ("same", ("less", ("less", ("sum", A, N1), B), C), N2))
        self.assertEqual(guard_of("((a + 1 < 2) and (yes))"), ("both", ("below", ("sum", A, N1), N2), YES))
        self.assertEqual(guard_of("((a) < 1 or ((in b)))"), ("either", ("below", A, N1), IN_B))
        self.assertEqual(guard_of("(not (a) < 1) and (((b)) < 2)"),
                         ("both", ("not", ("below", A, N1)), ("below", B, N2)))

    def test_many_brackets(self):
        self.assertEqual(guard_of("(" * 40 + "a < 1" + ")" * 40), ("below", A, N1))
        self.assertEqual(guard_of("(" * 40 + "a" + ")" * 40 + " < 1"), ("below", A, N1))
        self.assertEqual(term_of("(" * 40 + "a" + ")" * 40), A)


HEAD = ["fact a 0 9 1", "on h", "one r"]
REFUSED = [
    # What the text's end or a row's end lacks.
    ([], 1, 1),
    ([""], 2, 1),
    (["", "-- x", "  "], 4, 1),
    (["fact a 0 1 0"], 2, 1),
    (["on h", ""], 3, 1),
    (["fact"], 1, 5),
    (["fact   "], 1, 5),
    (["fact a 0 -"], 1, 11),
    (["fact a 0 1  "], 1, 11),
    (["on"], 1, 3),
    (["one"], 1, 4),
    (["leaf r", "  into set"], 2, 11),
    (["leaf r", "  into set a"], 2, 13),
    (["leaf r", "  into set a 1 +  "], 2, 17),
    (["leaf r", "  into raise h,"], 2, 16),
    (["leaf r", "  go"], 2, 5),
    (["leaf r", "  go on"], 2, 8),
    (["leaf r", "  go done if"], 2, 13),
    (["leaf r", "  go done if a"], 2, 15),
    (["leaf r", "  go done if (a"], 2, 16),
    (["leaf r", "  go done if (a)"], 2, 17),
    (["leaf r", "  go done if (a < 1"], 2, 20),
    (["leaf r", "  go done if not"], 2, 17),
    (["leaf r", "  go done to"], 2, 13),
    (["leaf r", "  go done to x,"], 2, 16),
    # Words that can't stand there.
    (["r"], 1, 1),
    (["into raise h"], 1, 1),
    (["fact one 0 1 0"], 1, 6),
    (["fact a 0 1 0 0"], 1, 14),
    (["fact a b 1 0"], 1, 8),
    (["fact a - - 1 2 3"], 1, 10),
    (["fact a + 1 2 3"], 1, 8),
    (["fact 1 0 1 0"], 1, 6),
    (["on h", "fact a 0 1 0"], 2, 1),
    (["on h k"], 1, 6),
    (["on h, k"], 1, 5),
    (["leaf r r"], 1, 8),
    (["leaf end"], 1, 6),
    (["leaf r", "  leaf x"], 2, 3),
    (["leaf r", "  go done", "  into raise h"], 3, 3),
    (["leaf r", "  go done", "  out raise h"], 3, 3),
    (["leaf r", "  out raise h", "  into raise h"], 3, 3),
    (["leaf r", "  into raise h", "  into raise h"], 3, 3),
    (["leaf r", "  out raise h", "  out raise h"], 3, 3),
    (["one r", "  leaf a", "  go done"], 3, 3),
    (["one r", "  leaf a", "  into raise h"], 3, 3),
    (["one r", "  back a", "  out raise h"], 3, 3),
    (["one r", "  one a", "    leaf b", "  go done"], 4, 3),
    (["one r", "  on h"], 2, 3),
    (["one r", "  fact a 0 1 0"], 2, 3),
    (["leaf r", "  go x"], 2, 6),
    (["leaf r", "  go on 1"], 2, 9),
    (["leaf r", "  go on if"], 2, 9),
    (["leaf r", "  go after x"], 2, 12),
    (["leaf r", "  go after -1"], 2, 12),
    (["leaf r", "  go done done"], 2, 11),
    (["leaf r", "  go done to x do raise h"], 2, 16),
    (["leaf r", "  go done do raise h if yes"], 2, 22),
    (["leaf r", "  go done if yes if yes"], 2, 18),
    (["leaf r", "  go done to x y"], 2, 16),
    (["leaf r", "  into x"], 2, 8),
    (["leaf r", "  into raise 1"], 2, 14),
    (["leaf r", "  into set a 1 2"], 2, 16),
    (["leaf r", "  into set 1 1"], 2, 12),
    (["leaf r", "  into set a -1"], 2, 14),
    (["leaf r", "  into set a in"], 2, 14),
    (["leaf r", "  into set a ()"], 2, 15),
    (["leaf r", "  into set a (1 < 2)"], 2, 17),
    (["leaf r", "  into set a 1)"], 2, 15),
    (["leaf r", "  into raise h raise h"], 2, 16),
    (["leaf r", "  go done if a and yes"], 2, 16),
    (["leaf r", "  go done if 1 < 2 < 3"], 2, 20),
    (["leaf r", "  go done if yes + 1"], 2, 18),
    (["leaf r", "  go done if in 1"], 2, 17),
    (["leaf r", "  go done if in a < 1"], 2, 19),
    (["leaf r", "  go done if or yes"], 2, 14),
    (["leaf r", "  go done if yes and or yes"], 2, 22),
    (["leaf r", "  go done if yes)"], 2, 17),
    # Brackets that could begin both: the words ahead alone decide.
    (["leaf r", "  go done if (a) and yes"], 2, 18),
    (["leaf r", "  go done if (a and yes)"], 2, 17),
    (["leaf r", "  go done if ((a) or yes)"], 2, 19),
    (["leaf r", "  go done if (a < 1) + 2"], 2, 22),
    (["leaf r", "  go done if (a < 1) < 2"], 2, 22),
    (["leaf r", "  go done if ((a < 1) - 2)"], 2, 23),
    (["leaf r", "  go done if (yes) = 1"], 2, 20),
    (["leaf r", "  go done if ((a)) do raise h"], 2, 20),
    (["leaf r", "  go done if (a + yes)"], 2, 19),
    (["leaf r", "  go done if (a < yes)"], 2, 19),
    (["leaf r", "  go done if (a < (yes))"], 2, 20),
    (["leaf r", "  go done if not (a) to x"], 2, 22),
    (["leaf r", "  go done if ()"], 2, 15),
    (["leaf r", "  go done if 1 + (2 < 3)"], 2, 21),
    # Signs that begin no word.
    (["leaf R"], 1, 6),
    (["leaf rR"], 1, 7),
    (["leaf _"], 1, 6),
    (["leaf r#"], 1, 7),
    (["leaf r *"], 1, 8),
    (["#leaf r"], 1, 1),
    (["leaf abcdefghi"], 1, 14),
    (["leaf abcdefgh9"], 1, 14),
    (["leaf abcdefgh"], None, None),
    (["abcdefghi"], 1, 1),
    (["leaf r", "  go after 1234567890"], 2, 21),
    (["leaf r", "  go after 123456789"], None, None),
    (["leaf r", "  go after 01"], 2, 13),
    (["leaf r", "  go after 00"], 2, 13),
    (["leaf r", "  go after 0x"], 2, 13),
    (["leaf r", "  go after 12x"], 2, 14),
    (["leaf r", "  go after 12if yes"], 2, 14),
    (["leaf r", "  go after 123456789a"], 2, 21),
    (["fact a 0 9 01"], 1, 13),
    (["leaf 1a"], 1, 6),
    (["leaf r", "  into set a 1.5"], 2, 15),
    (["leaf r", "  go done if a<1,"], 2, 17),
    (["leaf r", "\tgo done"], 2, 1),
    (["one r", "  \tleaf x"], 2, 3),
    (["leaf r\t"], 1, 7),
    (["leaf \u00e9"], 1, 6),
    (["leaf a\u0661"], 1, 7),
    # Blanks ahead of a row that no row may have there.
    ([" leaf r"], 1, 1),
    (["  fact a 0 1 0"], 1, 1),
    (["  Z"], 1, 1),
    (["one r", "leaf x"], 2, 1),
    (["one r", "on h"], 2, 1),
    (["one r", " leaf x"], 2, 1),
    (["one r", "   leaf x"], 2, 1),
    (["one r", "    leaf x"], 2, 1),
    (["one r", "  leaf x", "      go done"], 3, 1),
    (["one r", "  back x", "    go done"], 3, 1),
    (["one r", "  deep x", "    into raise h"], 3, 1),
    (["back r", "  go done"], 2, 1),
    (["deep r", "leaf x"], 2, 1),
    (["leaf r", "  go done", "    go done"], 3, 1),
    (["leaf r", "  go done", " go done"], 3, 1),
    (["one r", "  one p", "    leaf x", "   leaf y"], 4, 1),
    (["on h", "  one r"], 2, 1),
    # The first of two.
    (["leaf r", "  go done x", "leaf y"], 2, 11),
    (["one r", "leaf x", "  leaf R"], 2, 1),
    (["leaf", " leaf r"], 1, 5),
]


class TestRefused(unittest.TestCase):
    def test_each_text_is_refused_at_its_place(self):
        for text, row, column in REFUSED:
            with self.subTest(text=text):
                if row is None:
                    read_chart(text)
                    continue
                with self.assertRaises(NoText) as caught:
                    read_chart(text)
                self.assertEqual((caught.exception.row, caught.exception.column), (row, column))

    def test_places_of_refuses_likewise(self):
        for text, row, column in REFUSED:
            if row is not None:
                with self.assertRaises(NoText) as caught:
                    places_of(text)
                self.assertEqual((caught.exception.row, caught.exception.column), (row, column), text)

    def test_passed_rows_count(self):
        with self.assertRaises(NoText) as caught:
            read_chart(["", "-- x", *HEAD, "", "  leaf"])
        self.assertEqual((caught.exception.row, caught.exception.column), (7, 7))

    def test_what_may_stand_on_both_sides_of_a_refused_word(self):
        for words in ("yes", "in a", "1 < 2", "(yes)", "not yes"):
            for last in ("", " and yes", " or yes", " do raise h", " to x"):
                self.assertEqual(len(root_of("leaf r", f"  go done if {words}{last}")[5]), 1)


class TestPlaces(unittest.TestCase):
    def test_stands_and_moves(self):
        text = [
            "-- a chart", "fact a 0 1 0", "", "one r", "  into set a 1", "  go on h", "", "  go done", "  all p",
            "    go on h", "    leaf x", "      -- y", "      go on k", "      go on h", "  leaf q", "",
        ]
        wanted = {"r": (4, [6, 8]), "p": (9, [10]), "x": (11, [13, 14]), "q": (15, [])}
        places = places_of(text)
        self.assertEqual(places, wanted)
        self.assertEqual(list(places), ["r", "p", "x", "q"])
        for told in places.values():
            self.assertIsInstance(told, tuple)
            self.assertIsInstance(told[1], list)

    def test_a_name_told_twice(self):
        text = ["one r", "  one p", "    leaf a", "      go done", "  leaf b", "  leaf a", "    go done", "  leaf p"]
        places = places_of(text)
        self.assertEqual(places, {"r": (1, []), "p": (2, []), "a": (3, [4]), "b": (5, [])})
        self.assertEqual(list(places), ["r", "p", "a", "b"])

    def test_facts_and_happenings_have_no_place(self):
        self.assertEqual(places_of(["fact a 0 1 0", "on b", "one r", "  back c"]), {"r": (3, []), "c": (4, [])})

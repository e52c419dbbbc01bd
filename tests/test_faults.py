"""Faults 3 to 7, 15 and 16, with their places, and which comes first.

In a text the sign ! stands ahead of the fault's place, and is taken out.
"""

import re
import unittest

from support import ask, field, form_of, leaves, load

NUMBER = "from 0 to 1"
WHOLE = "record R { a : one { x : maybe from - 1 to 1 at 2 , y : many 2 from 0 to 1 } hot 3 ; }"
WORDS = ("record", "from", "to", "at", "maybe", "many", "one", "hot", "layout", "size", "of")


class FaultCase(unittest.TestCase):
    def fault(self, code, marked):
        text = marked.replace("!", "", 1)
        self.assertEqual(ask(load(text)), [[0, code, marked.index("!")]], marked)

    def in_field(self, code, told):
        self.fault(code, field(told))

    def loads(self, text, *counts):
        self.assertEqual(ask(load(text)), [[1, len(counts), *counts]])


def records(count, start=0):
    return " ".join(f"record R{k} {{ a : {NUMBER} ; }}" for k in range(start, start + count))


def one_of(count, told=NUMBER):
    return "one { " + " , ".join(f"x{k} : {told}" for k in range(count)) + " }"


class NotAllowed(FaultCase):
    def test_no_records(self):
        for text in ("!", "  !", "# remark!", "\n#\n!"):
            self.fault(3, text)

    def test_record_without_fields(self):
        self.fault(3, "record R { !}")
        self.fault(3, "record R { !} record S { a : from 0 to 1 ; }")

    def test_one_with_a_single_alternative(self):
        self.in_field(3, "one { x : from 0 to 1 !}")

    def test_one_without_alternatives(self):
        self.in_field(3, "one { !}")

    def test_no_name_behind_a_comma(self):
        self.in_field(3, "one { x : from 0 to 1 , !}")
        self.in_field(3, "one { x : from 0 to 1 , y : from 0 to 1 , !}")
        self.in_field(3, "one { x : from 0 to 1 , y : from 0 to 1 , z : from 0 to 1 , !}")

    def test_text_ends_early(self):
        whole = WHOLE.split()
        for count in range(len(whole)):
            self.fault(3, " ".join(whole[:count]) + "!")

    def test_each_token_of_a_text_in_turn(self):
        whole = WHOLE.split()
        for k in range(len(whole)):
            for wrong in (".", "layout", "size", "of"):
                self.fault(3, " ".join(whole[:k] + ["!" + wrong] + whole[k + 1:]))

    def test_words_are_no_names(self):
        for word in WORDS:
            self.fault(3, f"record !{word} {{ a : from 0 to 1 ; }}")
            self.fault(3, f"record R {{ !{word} : from 0 to 1 ; }}")
            self.in_field(3, f"one {{ !{word} : from 0 to 1 , y : from 0 to 1 }}")
            if word not in ("from", "maybe", "many", "one"):
                self.in_field(3, "!" + word)

    def test_words_within_names_are_names(self):
        self.loads("record records { from1 : from 0 to 1 ; tomany : from 0 to 1 ; }", 2)

    def test_behind_a_record(self):
        for token in ("}", "R", "1", ";", ".", "from", "-"):
            self.fault(3, records(1) + " !" + token)
            self.fault(3, records(6) + " !" + token)

    def test_minus_only_before_a_value(self):
        self.in_field(3, "many !- 1 from 0 to 1")
        self.in_field(3, "from 0 to 1 at !- 1")
        self.in_field(3, "from 0 to 1 hot !- 1")
        self.in_field(3, "from -!-1 to 1")
        self.in_field(3, "from -!x to 1")

    def test_hot_only_behind_a_field(self):
        self.in_field(3, "one { x : from 0 to 1 !hot 2 , y : from 0 to 1 }")
        self.in_field(3, "from 0 to 1 hot 2 !hot 2")
        self.in_field(3, "from 0 to 1 hot 2 !at 2")

    def test_at_only_behind_a_number(self):
        self.fault(3, "record P { a : from 0 to 1 ; } record R { a : P !at 2 ; }")
        self.in_field(3, one_of(2) + " !at 8")
        self.in_field(3, "from 0 to 1 at 2 !at 2")

    def test_numbers_are_asked_for(self):
        self.in_field(3, "many !from 0 to 1")
        self.in_field(3, "from 0 to 1 at !;")
        self.in_field(3, "from 0 to 1 hot !x")
        self.in_field(3, "from !to 1")

    def test_field_ends_with_its_sign(self):
        self.fault(3, "record R { a : from 0 to 1 !}")
        self.fault(3, "record R { a : from 0 to 1 !, b : from 0 to 1 ; }")
        self.fault(3, "record R { a : from 0 to 1 ; !; }")


class TooMany(FaultCase):
    def test_six_records(self):
        self.loads(records(6), 1, 1, 1, 1, 1, 1)

    def test_seventh_record(self):
        self.fault(4, records(6) + " !record")
        self.fault(4, records(6) + " !" + records(1, 6))
        self.fault(4, records(6) + " !" + records(1))
        self.fault(4, records(6) + " !record }")

    def test_four_alternatives(self):
        self.loads(field(one_of(4)), 5)

    def test_fifth_alternative(self):
        four = one_of(4)[:-2]
        for token in ("x4 : from 0 to 1 }", "x0 : from 0 to 1 }", "}", ",", ";", "5", "from", "record", ".", ":"):
            self.in_field(4, four + " , !" + token)
        self.fault(4, "record R { a : " + four + " ,!")
        self.fault(4, "record R { a : " + four + " , !")

    def test_fifth_alternative_within_another_one(self):
        self.in_field(4, "one { y : " + one_of(4)[:-2] + " , !x4 : from 0 to 1 } , z : from 0 to 1 }")

    def test_four_alternatives_end_without_a_comma(self):
        self.in_field(3, one_of(4)[:-2] + " !x4 : from 0 to 1 }")

    def test_six_deep(self):
        self.loads(field("maybe " * 5 + NUMBER), 6)
        self.loads(field("many 1 " * 5 + NUMBER), 1)
        self.loads(field("maybe " * 4 + one_of(2)), 4 + 3)
        self.loads("record P { a : from 0 to 1 ; } " + field("maybe " * 5 + "P"), 1, 6)

    def test_inside_six_others(self):
        for token in ("from 0 to 1", "maybe", "many 2", "one", "R", "X", "}", ";", "7", "layout", "."):
            self.in_field(4, "maybe " * 6 + "!" + token)
            self.in_field(4, "many 1 " * 6 + "!" + token)
            self.in_field(4, "maybe " * 5 + "one { x : !" + token)

    def test_inside_six_others_at_the_end(self):
        self.fault(4, "record R { a : " + "maybe " * 6 + "!")
        self.fault(4, "record R { a :" + " maybe" * 6 + "!")
        self.fault(4, "record R { a :" + " many 8" * 6 + "!")
        self.fault(4, "record R { a : maybe maybe maybe maybe maybe one { x :!")

    def test_other_faults_ahead_of_the_seventh(self):
        self.in_field(7, "maybe " * 5 + "many !9 from 0 to 1")
        self.in_field(3, "maybe " * 5 + "many !from 0 to 1")
        self.in_field(3, "maybe " * 5 + "one !x")
        self.in_field(3, "maybe " * 5 + "one { !}")

    def test_depth_ends_with_each_part(self):
        deep = "maybe " * 4 + NUMBER
        self.loads(field(one_of(4, deep)), 1 + 4 * 5)
        self.loads("record R { a : " + "maybe " * 5 + NUMBER + " ; b : " + "maybe " * 5 + NUMBER + " ; }", 12)
        self.in_field(4, "one { x : " + deep + " , y : maybe " + "maybe " * 4 + "!" + NUMBER)

    def test_named_records_do_not_count(self):
        text = "record R0 { a : " + "maybe " * 2 + NUMBER + " ; } "
        text += " ".join(f"record R{k} {{ a : {'maybe ' * 2}R{k - 1} ; }}" for k in range(1, 6))
        self.loads(text, 3, 5, 7, 9, 11, 13)

    def test_36_deep(self):
        text = "record R0 { a : " + "many 1 " * 5 + NUMBER + " ; } "
        text += " ".join(f"record R{k} {{ a : {'many 1 ' * 5}R{k - 1} ; }}" for k in range(1, 6))
        self.loads(text, 1, 1, 1, 1, 1, 1)


class ToldTwice(FaultCase):
    def test_record(self):
        self.fault(5, records(2) + " record !R1 { a : from 0 to 1 ; }")
        self.fault(5, records(1) + " record !R0 }")

    def test_field(self):
        self.fault(5, "record R { a : from 0 to 1 ; b : from 0 to 1 ; !a : from 0 to 1 ; }")
        self.fault(5, "record R { a : from 0 to 1 ; !a }")

    def test_alternative(self):
        self.in_field(5, "one { x : from 0 to 1 , !x : from 0 to 1 }")
        self.in_field(5, "one { x : from 0 to 1 , y : from 0 to 1 , z : from 0 to 1 , !y : from 0 to 1 }")

    def test_elsewhere_the_same_name_is_free(self):
        self.loads(
            "record a { a : one { a : one { a : from 0 to 1 , b : from 0 to 1 } , b : from 0 to 1 } ; b : from 0 to 1 ; }"
            " record b { a : a ; b : a ; }", 6, 12,
        )

    def test_of_an_alternative_before_the_fault_behind_it(self):
        self.in_field(5, "one { x : from 0 to 1 , !x x }")


class NotToldBefore(FaultCase):
    def test_never_told(self):
        self.in_field(6, "!X")
        self.in_field(6, "maybe !X")
        self.in_field(6, "many 2 !X")
        self.in_field(6, "one { x : !X }")

    def test_told_later(self):
        self.fault(6, "record R { a : !S ; } record S { a : from 0 to 1 ; }")

    def test_itself(self):
        self.fault(6, "record R { a : from 0 to 1 ; b : !R ; }")

    def test_fields_and_alternatives_are_no_records(self):
        self.fault(6, "record R { a : from 0 to 1 ; b : !a ; }")
        self.in_field(6, "one { x : from 0 to 1 , y : !x }")

    def test_told_before(self):
        self.loads("record R { a : from 0 to 1 ; } record S { a : R ; b : R ; } record T { a : S ; b : R ; }", 1, 2, 3)


class OutOfBounds(FaultCase):
    def test_values(self):
        self.loads(field("from -1000000 to 1000000"), 1)
        self.loads(field("from 1000000 to 1000000"), 1)
        self.loads(field("from -1000000 to -1000000"), 1)
        self.in_field(7, "from !1000001 to 1000001")
        self.in_field(7, "from 0 to !1000001")
        self.in_field(7, "from -!1000001 to 0")
        self.in_field(7, "from - #\n !1000001 to 0")
        self.in_field(7, "from 0 to -!1000001")

    def test_times(self):
        self.loads(field("many 1 " + NUMBER), 1)
        self.loads(field("many 8 " + NUMBER), 8)
        self.in_field(7, "many !0 from 0 to 1")
        self.in_field(7, "many !9 from 0 to 1")

    def test_hot(self):
        self.loads(field(NUMBER + " hot 1"), 1)
        self.loads(field(NUMBER + " hot 1000"), 1)
        self.in_field(7, "from 0 to 1 hot !0")
        self.in_field(7, "from 0 to 1 hot !1001")

    def test_alignment(self):
        for number in range(70):
            if number in (1, 2, 4, 8, 16, 32):
                self.loads(field(f"from 0 to 1 at {number}"), 1)
            else:
                self.in_field(7, f"from 0 to 1 at !{number}")

    def test_last_below_first(self):
        self.in_field(7, "from 5 to !4")
        self.in_field(7, "from 0 to -!1")
        self.in_field(7, "from -3 to -!4")
        self.in_field(7, "from -3 to - \n !4 at 3")
        self.in_field(7, "from 1 to -!0")
        self.loads(field("from 5 to 5"), 1)
        self.loads(field("from -4 to -3"), 1)

    def test_zero_with_a_sign(self):
        self.loads(field("from -0 to 0"), 1)
        self.loads(field("from 0 to -0"), 1)
        self.loads(field("from - 0 to - 0"), 1)


class TooManyLeaves(FaultCase):
    def test_24(self):
        self.loads(field("many 8 many 3 " + NUMBER), 24)
        self.loads("record R { " + "".join(f"f{k} : {NUMBER} ; " for k in range(24)) + "}", 24)
        self.loads("record P { a : many 8 " + NUMBER + " ; } record R { a : many 3 P ; }", 8, 24)

    def test_25(self):
        self.fault(15, "!" + field("many 5 many 5 " + NUMBER))
        self.fault(15, "!record R { " + "".join(f"f{k} : {NUMBER} ; " for k in range(25)) + "}")
        self.fault(15, "record P { a : many 8 " + NUMBER + " ; } !record R { a : many 3 P ; b : from 0 to 1 ; }")

    def test_tags_are_leaves(self):
        self.loads(field("many 8 maybe maybe " + NUMBER), 24)
        self.loads("record R { a : many 8 " + one_of(2) + " ; }", 24)
        self.fault(15, "!record R { a : many 8 " + one_of(2) + " ; b : from 0 to 1 ; }")
        self.fault(15, "!" + field("maybe many 8 many 3 " + NUMBER))
        self.fault(15, "!" + field("one { x : many 8 " + NUMBER + " , y : many 8 maybe " + NUMBER + " }"))

    def test_far_more(self):
        self.fault(15, "!" + field("many 8 " * 5 + NUMBER))
        wide = "".join(f"f{k}:{'many 8 ' * 5}{NUMBER};" for k in range(60))
        self.fault(15, "!record R{" + wide + "}")

    def test_only_when_the_brace_has_been_read(self):
        over = "record R { a : many 5 many 5 " + NUMBER + " ; "
        self.fault(3, over + "!")
        self.fault(5, over + "!a : from 0 to 1 ; }")
        self.fault(7, over + "b : many !9 from 0 to 1 ; }")
        self.fault(3, over + "!;")

    def test_ahead_of_what_stands_behind_the_brace(self):
        over = "!record R { a : many 5 many 5 " + NUMBER + " ; }"
        self.fault(15, over + " }")
        self.fault(15, over + " record R")
        self.fault(15, records(5) + " " + over + " record")
        self.fault(15, over + " " + over.replace("!", "").replace("R", "S"))

    def test_blanks_before_the_word(self):
        self.fault(15, "# remark\n  !" + field("many 5 many 5 " + NUMBER))


def sized_form(size):
    """A one form of just this many bytes: names are as long as need be."""
    rows = []
    for k in range(6):
        rows.append(f"record R{k} {{\n")
        for name in "abcd":
            told = ", ".join(f"{inner}_ : from 100 to 100" for inner in "wxyz")
            rows.append(f"{name}_ : one {{ {told} }} ;\n")
        rows.append("}\n")
    parts = "".join(rows).split("_")
    left = size - sum(len(part) for part in parts)
    told = parts[0]
    for part in parts[1:]:
        more = min(15, left)
        left -= more
        told += "n" * more + part
    if len(told) != size:
        raise AssertionError("no such form")
    return told


def sized_text(size):
    """The same without the blanks that need not be."""
    return re.sub(r"\s*([{}:;,])\s*", r"\1", sized_form(size))


class FormTooLong(FaultCase):
    def test_bounds(self):
        for size, answer in ((4095, 1), (4096, 1), (4097, 0), (4098, 0)):
            text = sized_text(size)
            self.assertLessEqual(len(text), 4096)
            told = ask(load(text))[0]
            self.assertEqual(told[0], answer, size)
            if answer:
                self.assertEqual(form_of(text), sized_form(size))
            else:
                self.assertEqual(told, [0, 16, 0])

    def test_last_of_all(self):
        self.fault(3, sized_text(4097) + "!}")
        self.fault(4, sized_text(4097) + "!record")

    def test_changes_nothing(self):
        self.assertEqual(
            ask(load(field(NUMBER)), load(sized_text(4200)), leaves(0), leaves(1)),
            [[1, 1, 1], [0, 16, 0], [1, 1, 1], [-2]],
        )


class Order(FaultCase):
    def test_leftmost_first(self):
        self.fault(7, "record R { a : many !0 X ; a : from 1 to 0 ; } }")
        self.fault(6, "record R { a : !X ; a : from 1 to 0 ; } }")
        self.fault(5, "record R { a : from 0 to 1 ; !a : from 1 to 0 ; } }")
        self.fault(7, "record R { a : from 1 to !0 at 3 ; } }")
        self.fault(7, "record R { a : from 0 to 1 at !3 hot 0 ; } }")
        self.fault(3, records(1) + " !} " + records(1))
        self.fault(5, records(2) + " record !R0 { a : many 0 X")


if __name__ == "__main__":
    unittest.main()

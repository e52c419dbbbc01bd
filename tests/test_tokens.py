"""Faults 1 and 2, blanks and remarks."""

import unittest

from support import ask, data_of, field, form_of, last, load, shown

PLAIN = "record R { a : from 0 to 1 ; }"
FORM = "record R {\na : from 0 to 1 ;\n}\n"


class TokenCase(unittest.TestCase):
    def fault(self, text, code, place):
        self.assertEqual(ask(load(text)), [[0, code, place]])

    def loads(self, text):
        self.assertEqual(ask(load(text))[0][0], 1)


class Length(TokenCase):
    def test_4096_bytes(self):
        self.loads(PLAIN + " " * (4096 - len(PLAIN)))

    def test_4097_bytes(self):
        self.fault(PLAIN + " " * (4097 - len(PLAIN)), 1, 4096)

    def test_8192_bytes(self):
        self.fault(" " * 8192, 1, 4096)

    def test_ahead_of_every_other_fault(self):
        self.fault("@" * 4097, 1, 4096)
        self.fault("}" * 5000, 1, 4096)

    def test_4096_bytes_with_another_fault(self):
        self.fault("@" * 4096, 2, 0)
        self.fault(" " * 4096, 3, 4096)


class Blanks(TokenCase):
    def test_all_three(self):
        self.assertEqual(form_of(PLAIN.replace(" ", "\t\n ")), FORM)

    def test_at_both_ends(self):
        self.assertEqual(form_of("\n\t " + PLAIN + "\n\t "), FORM)

    def test_none_where_tokens_part_by_themselves(self):
        self.assertEqual(form_of("record R{a:from 0to 1;}"), FORM)

    def test_between_sign_and_number(self):
        self.assertEqual(form_of(field("from - 3 to -\n#x\n1")), "record R {\na : from -3 to -1 ;\n}\n")

    def test_no_other_byte_is_a_blank(self):
        for byte in (0, 11, 12, 13, 31, 127, 128, 160, 255):
            self.fault([32, byte] + data_of(PLAIN), 2, 1)


class Remarks(TokenCase):
    def test_up_to_the_line_end(self):
        self.assertEqual(form_of("# no } record\n" + PLAIN.replace(" ; ", " # ;\n ; # @ $\n")), FORM)

    def test_up_to_the_text_end(self):
        self.assertEqual(form_of(PLAIN + "# the end"), FORM)
        self.assertEqual(form_of(PLAIN + "#"), FORM)

    def test_any_byte_in_it(self):
        remark = [35] + [byte for byte in range(256) if byte != 10] + [10]
        self.assertEqual(last(load(remark + data_of(PLAIN))), [1, 1, 1])

    def test_only_the_byte_10_ends_it(self):
        self.fault([35, 13] + data_of(PLAIN), 3, 2 + len(PLAIN))

    def test_parts_tokens(self):
        self.assertEqual(form_of("record#\nR{a:from#\n0 to 1;}"), FORM)
        self.fault("rec#\nord R { a : from 0 to 1 ; }", 3, 0)


class Names(TokenCase):
    def test_16_bytes(self):
        name = "aZ3456789012345z"
        self.assertEqual(form_of(field("from 0 to 1", name)), FORM.replace("a :", name + " :"))

    def test_17_bytes(self):
        self.fault(field("from 0 to 1", "a" * 17), 2, 11)
        self.fault("recordrecordrecor", 2, 0)

    def test_large_and_small_letters_are_unlike(self):
        self.loads("record r { a : from 0 to 1 ; A : from 0 to 1 ; } record R { Record : r ; FROM : r ; }")

    def test_edges_of_the_letters(self):
        self.loads("record azAZ09 { z9Z0 : from 0 to 1 ; }")
        for byte in (64, 91, 96, 47, 94, 95):
            self.fault(data_of("record R") + [byte] + data_of(" { a : from 0 to 1 ; }"), 2, 8)
        for byte in (124, 126):
            self.fault([byte], 2, 0)

    def test_a_digit_begins_a_number(self):
        self.fault("record 1R { a : from 0 to 1 ; }", 3, 7)


class Numbers(TokenCase):
    def test_greatest(self):
        self.fault(field("from 0 to 1000000000"), 7, 25)

    def test_one_above(self):
        self.fault(field("from 0 to 1000000001"), 2, 25)

    def test_far_above(self):
        self.fault(field("from 0 to 9999999999"), 2, 25)
        self.fault(field("from 0 to 10000000000"), 2, 25)
        self.fault("record R { a : from 0 to " + "9" * 4000, 2, 25)

    def test_needless_zero(self):
        for number in ("00", "01", "007", "00000000000"):
            self.fault(field("from 0 to " + number), 2, 25)

    def test_needless_zero_behind_a_sign(self):
        self.fault(field("from -01 to 0"), 2, 21)

    def test_zero_itself(self):
        self.loads(field("from 0 to 0"))

    def test_letters_behind_digits_are_another_token(self):
        self.fault(field("from 0 to 1x"), 3, 26)
        self.loads(field("from 0to 1at 8"))


class NoToken(TokenCase):
    def test_first_place_counts(self):
        self.fault("record R { @ $ }", 2, 11)

    def test_ahead_of_faults_to_the_left(self):
        self.fault("} } record record @", 2, 18)
        self.fault(field("from 5 to 4") + " 01", 2, len(field("from 5 to 4")) + 1)
        self.fault("record R { } " + "x" * 17, 2, 13)

    def test_every_byte_by_itself(self):
        signs = data_of("{},;:-.")
        for byte in range(256):
            if byte in (9, 10, 32, 35):
                self.fault([byte], 3, 1)
            elif byte in signs or 48 <= byte < 58 or 65 <= byte < 91 or 97 <= byte < 123:
                self.fault([byte], 3, 0)
            else:
                self.fault([byte], 2, 0)

    def test_nothing_is_held(self):
        self.assertEqual(ask(load("@"), shown()), [[0, 2, 0], [-1]])


if __name__ == "__main__":
    unittest.main()

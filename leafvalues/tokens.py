"""Texts, cut into tokens."""

from leafvalues.faults import Fault, NO_TOKEN

WORDS = ("record", "from", "to", "at", "maybe", "many", "one", "hot", "layout", "size", "of")
SIGNS = {123: "{", 125: "}", 44: ",", 59: ";", 58: ":", 45: "-", 46: "."}
BLANKS = (32, 9, 10)
REMARK = 35
LINE_END = 10

SMALL_LETTERS = "abcdefghijklmnopqrstuvwxyz"
LARGE_LETTERS = "ABCDEFGHIJKLMNOPQRSTUVWXYZ"
DIGITS = "0123456789"
SMALL_A = 97
LARGE_A = 65
ZERO = 48

LONGEST_NAME = 16
GREATEST_NUMBER = 1000000000


class Token:
    """A piece of the text at a place.

    kind is the word or the sign itself, or "name", "number", "end";
    told is a name's text or a number's value.
    """

    def __init__(self, kind, told, place):
        self.kind = kind
        self.told = told
        self.place = place


def is_digit(byte):
    return ZERO <= byte < ZERO + 10


def is_letter(byte):
    return SMALL_A <= byte < SMALL_A + 26 or LARGE_A <= byte < LARGE_A + 26


def sign_of(byte):
    """The letter or digit that the byte stands for."""
    if byte >= SMALL_A:
        return SMALL_LETTERS[byte - SMALL_A]
    if byte >= LARGE_A:
        return LARGE_LETTERS[byte - LARGE_A]
    return DIGITS[byte - ZERO]


def behind_remark(text, place):
    while place < len(text) and text[place] != LINE_END:
        place += 1
    return place


def behind_blanks(text, place):
    """The first place from here on that is in no blank and no remark."""
    while place < len(text):
        if text[place] in BLANKS:
            place += 1
        elif text[place] == REMARK:
            place = behind_remark(text, place)
        else:
            break
    return place


def behind_word(text, place):
    while place < len(text) and (is_letter(text[place]) or is_digit(text[place])):
        place += 1
    return place


def behind_digits(text, place):
    while place < len(text) and is_digit(text[place]):
        place += 1
    return place


def behind_token(text, place):
    if is_letter(text[place]):
        return behind_word(text, place)
    if is_digit(text[place]):
        return behind_digits(text, place)
    return place + 1


def word_token(part, place):
    if len(part) > LONGEST_NAME:
        raise Fault(NO_TOKEN, place)
    word = "".join([sign_of(byte) for byte in part])
    if word in WORDS:
        return Token(word, word, place)
    return Token("name", word, place)


def number_token(part, place):
    needless_zero = len(part) > 1 and part[0] == ZERO
    number = 0
    for byte in part:
        number = number * 10 + byte - ZERO
    if needless_zero or number > GREATEST_NUMBER:
        raise Fault(NO_TOKEN, place)
    return Token("number", number, place)


def token_of(part, place):
    """The token that these bytes are, beginning at the place."""
    first = part[0]
    if is_letter(first):
        return word_token(part, place)
    if is_digit(first):
        return number_token(part, place)
    if first in SIGNS:
        return Token(SIGNS[first], SIGNS[first], place)
    raise Fault(NO_TOKEN, place)


def tokens_of(text):
    """All tokens of the text, the text's end as the last one."""
    tokens = []
    place = behind_blanks(text, 0)
    while place < len(text):
        behind = behind_token(text, place)
        tokens.append(token_of(text[place:behind], place))
        place = behind_blanks(text, behind)
    tokens.append(Token("end", "", len(text)))
    return tokens

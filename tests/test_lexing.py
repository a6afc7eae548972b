"""Names and tokens."""

import itertools
import random

from forwardlists.errors import BadText
from forwardlists.lexing import KEYWORDS, is_name, tokens
from tests.bookwords import WORDS, lexed, named
from tests.cases import Case, any_values, spoilt


class Examples(Case):
    def test_examples(self):
        self.holds(r"""
            >>> from forwardlists.lexing import is_name, tokens
            >>> [is_name(value) for value in ("a", "abcdefgh", "abcdefghi", "", "A", "a1", "from", "form", 5)]
            [True, True, False, False, False, False, False, True, False]
            >>> tokens("text x:a\n007;"), tokens("")
            ((('word', 'text', 0), ('word', 'x', 5), ('sign', ':', 6), ('word', 'a', 7), ('figures', '007', 9), ('sign', ';', 12)), ())
            >>> tokens("a b_c")
            raises BadText(3)
            >>> tokens("0" * 41)
            raises BadText(0)
        """)


class Names(Case):
    def test_the_keywords_ascend(self):
        self.exact(KEYWORDS, WORDS)
        self.exact(KEYWORDS, tuple(sorted(set(KEYWORDS))))
        self.assertEqual(len(KEYWORDS), 24)

    def test_no_keyword_is_a_name(self):
        for word in WORDS:
            self.exact(is_name(word), False)
            for near in (word + "s", "x" + word, word[:-1], word[::-1], word.upper(), word.title()):
                self.exact(is_name(near), named(near))

    def test_as_many_signs_as_a_name_has(self):
        for many in range(12):
            self.exact(is_name("q" * many), 1 <= many <= 8)
            self.exact(is_name("letters"[:many]), 1 <= many <= 6)

    def test_each_sign_at_each_place(self):
        for code in list(range(32, 127)) + [10]:
            sign = chr(code)
            for name in (sign, sign + "bcd", "bc" + sign + "d", "bcd" + sign, "abcdefg" + sign):
                self.exact(is_name(name), all("a" <= one <= "z" for one in name))

    def test_any_value(self):
        for value in any_values():
            self.exact(is_name(value), named(value))
            self.keeps(is_name, value)


class Tokens(Case):
    def check(self, value):
        row = lexed(value)
        if row[-1][0] == "bad":
            self.raises(BadText(row[-1][2]), tokens, value)
        else:
            self.exact(tokens(value), tuple(row[:-1]))

    def test_all_strings_of_a_few_signs(self):
        for many in range(6):
            for signs in itertools.product("a0; _", repeat=many):
                self.check("".join(signs))

    def test_each_sign_alone_and_in_the_midst(self):
        for code in list(range(32, 127)) + [10]:
            for value in (chr(code), "ab" + chr(code) + "0", "a " + chr(code), chr(code) + " a", "0" + chr(code)):
                self.check(value)

    def test_how_long_rows_may_be(self):
        for many in range(45):
            for value in ("a" * many, "7" * many, "b " + "a" * many, "0a" + "9" * many + "b", ";" * many, " \n" * many):
                self.check(value)
        self.raises(BadText(2), tokens, "a abcdefghi")
        self.raises(BadText(1), tokens, "a" + "0" * 41)
        self.exact(tokens("abcdefgh" + "0" * 40), (("word", "abcdefgh", 0), ("figures", "0" * 40, 8)))

    def test_the_first_fault_is_told(self):
        self.raises(BadText(2), tokens, "a _ abcdefghi")
        self.raises(BadText(2), tokens, "a abcdefghi _")
        self.raises(BadText(0), tokens, "abcdefghi" + "0" * 41)

    def test_blanks_and_line_feeds(self):
        wanted = ["a", "12", ";", "b", ":"]
        for blank in ("", " ", "\n", "  ", " \n "):
            value = blank + blank.join(["a", "12", ";", "b", ":"]) + blank
            self.exact([text for _, text, _ in tokens(value)], wanted)
            self.check(value)
        self.check("a\tb")
        self.check("a\rb")
        self.exact(tokens(" \n \n"), ())

    def test_spoilt_texts(self):
        text = "letters a b; rule 0 10;\ntext x: a b a;"
        for value in spoilt(text, "a0;: \n_A-"):
            self.check(value)

    def test_long_strings(self):
        chance = random.Random(221)
        for _ in range(20):
            self.check("".join(chance.choice("abz 09;:\n") for _ in range(2000)))
            self.check("".join(chance.choice(("ab ", "from\n", "09 ", ";", ":", "x")) for _ in range(3000)))
        self.check("a " * 10000)

    def test_any_value(self):
        for value in any_values():
            if type(value) is str:
                self.check(value)
            else:
                self.raises(BadText(0), tokens, value)
            self.keeps(tokens, value)

    def test_by_name(self):
        self.exact(tokens(value="a"), (("word", "a", 0),))
        self.exact(is_name(value="a"), True)

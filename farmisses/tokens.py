"""Splitting texts into tokens, and going over these from left to right."""

from farmisses.errors import InvalidSyntax, TooLarge

_LETTERS = "abcdefghijklmnopqrstuvwxyz"
_DIGITS = "0123456789"
_GAPS = " \n"
_MOST_DIGITS = 150
_BEYOND_DIGITS = 10 ** 64 * 10 ** 64 * 10 ** 22


def is_word(text):
    """Return whether a text is a lowercase letter and then lowercase letters and digits."""
    return text != "" and text[0] in _LETTERS and _end_of_run(text, 0) == len(text)


def is_number(text):
    """Return whether a text is a number: decimal digits without leading zeros."""
    if text == "" or (text[0] == "0" and text != "0"):
        return False
    return all([character in _DIGITS for character in text])


def is_short_number(text):
    """Return whether a text is a number of at most 150 digits."""
    return is_number(text) and len(text) <= _MOST_DIGITS


def has_few_digits(number):
    """Return whether an integer has at most 150 digits."""
    return abs(number) < _BEYOND_DIGITS


def _end_of_run(text, begin):
    """Return the position behind the lowercase letters and digits that stand from begin on."""
    end = begin
    while end < len(text) and (text[end] in _LETTERS or text[end] in _DIGITS):
        end += 1
    return end


def tokens_of(text):
    """Return the list of the pairs (token, position) of a text, with ("", its length) at the end.

    A run of letters and digits is one token, also if it is neither a word nor a number; each
    other character is one by itself, also if it is no sign. Such tokens can stand nowhere, so
    that whoever reads the tokens tells of them where they stand.
    """
    found = []
    at = 0
    while at < len(text):
        end = max(at + 1, _end_of_run(text, at))
        if text[at] not in _GAPS:
            found.append((text[at:end], at))
        at = end
    found.append(("", len(text)))
    return found


class Reader:
    """A way over the tokens of a text; the token at its end is the empty text."""

    def __init__(self, text):
        self._tokens = tokens_of(text)
        self._at = 0

    def token(self):
        """Return the token that comes next."""
        token, _ = self._tokens[self._at]
        return token

    def place(self):
        """Return the position of the token that comes next."""
        _, place = self._tokens[self._at]
        return place

    def pass_any(self):
        """Go behind the next token, which is not the end, and return it."""
        token = self.token()
        self._at += 1
        return token

    def passes(self, token):
        """Return whether this token comes next, and go behind it if so."""
        if self.token() != token:
            return False
        self._at += 1
        return True

    def pass_only(self, token):
        """Go behind this token; raise InvalidSyntax if another one comes next."""
        if not self.passes(token):
            raise InvalidSyntax(self.place())

    def pass_one(self, tokens):
        """Go behind one of these tokens and return it; raise InvalidSyntax if another one comes next."""
        if self.token() not in tokens:
            raise InvalidSyntax(self.place())
        return self.pass_any()

    def pass_number(self):
        """Go behind a number and return its value; raise InvalidSyntax if none comes next."""
        if not is_number(self.token()):
            raise InvalidSyntax(self.place())
        if len(self.token()) > _MOST_DIGITS:
            raise TooLarge("numbers")
        return int(self.pass_any())

    def pass_end(self):
        """Raise InvalidSyntax unless the text ends here."""
        if self.token() != "":
            raise InvalidSyntax(self.place())

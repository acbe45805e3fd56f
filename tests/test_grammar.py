"""Point 5 against another reader: the grammar of the document as rules, for Earley's way."""

import random
import unittest

from farmisses.errors import InvalidSyntax
from farmisses.texts import parse, parse_block, parse_size

RULES = {
    "PROGRAM": [["ARRAYS", "BLOCK"]],
    "ARRAYS": [[], ["array", "NAME", "SIZE", "ARRAYS"]],
    "BLOCK": [[], ["STATEMENT", "BLOCK"]],
    "STATEMENT": [["for", "NAME", "SIZE", "{", "BLOCK", "}"], ["read", "NAME", "[", "INDEX", "]"],
                  ["write", "NAME", "[", "INDEX", "]"], ["flush"]],
    "SIZE": [["PART", "REST"], ["-", "PART", "REST"]],
    "REST": [[], ["+", "PART", "REST"], ["-", "PART", "REST"]],
    "PART": [["NUMBER"], ["NUMBER", "*", "NS"], ["NS"]],
    "NS": [["n"], ["n", "*", "NS"]],
    "INDEX": [["ITEM", "ITEMS"], ["-", "ITEM", "ITEMS"]],
    "ITEMS": [[], ["+", "ITEM", "ITEMS"], ["-", "ITEM", "ITEMS"]],
    "ITEM": [["PART"], ["PART", "*", "NAME"], ["NAME"]],
}
WORDS = ["array", "for", "read", "write", "flush", "n", "a", "i", "n0", "0", "1", "12", "00", "1a",
         "{", "}", "[", "]", "+", "-", "*", "#", "("]
READERS = {"PROGRAM": parse, "BLOCK": parse_block, "SIZE": parse_size}


def kind_of(word):
    if word in ("array", "for", "read", "write", "flush", "n"):
        return word
    return {"a": "NAME", "i": "NAME", "n0": "NAME", "0": "NUMBER", "1": "NUMBER",
            "12": "NUMBER", "00": "no token", "1a": "no token"}.get(word, word)


def closed(states, at):
    """The states at a place, with all that they predict and complete; none is empty there."""
    row = list(states[at])
    found = set(row)
    for rule, done, begin in row:
        name, items = rule
        if done < len(items) and items[done] in RULES:
            new = [((items[done], tuple(way)), 0, at) for way in RULES[items[done]]]
            if [] in RULES[items[done]]:
                new.append((rule, done + 1, begin))
        elif done == len(items):
            earlier = row if begin == at else states[begin]
            new = [(other, step + 1, first) for other, step, first in list(earlier)
                   if step < len(other[1]) and other[1][step] == name]
        else:
            new = []
        for state in new:
            if state not in found:
                found.add(state)
                row.append(state)
    return row


def first_wrong(start, words):
    """The number of the first word that cannot stand, len(words) if more must follow, or None."""
    whole = [(start, tuple(way)) for way in RULES[start]]
    states = [[(rule, 0, 0) for rule in whole]]
    for at in range(len(words) + 1):
        states[at] = closed(states, at)
        if at == len(words):
            done = [rule for rule, step, first in states[at]
                    if rule in whole and step == len(rule[1]) and first == 0]
            return None if done else at
        following = [(rule, done + 1, begin) for rule, done, begin in states[at]
                     if done < len(rule[1]) and rule[1][done] == kind_of(words[at])]
        if not following:
            return at
        states.append(following)


def derived(chance, symbol, depth=0):
    """Some words of a symbol of the grammar; the first ways are the short ones."""
    if symbol == "NAME":
        return [chance.choice(["a", "i", "n0"])]
    if symbol == "NUMBER":
        return [chance.choice(["0", "1", "12"])]
    if symbol not in RULES:
        return [symbol]
    ways = RULES[symbol] if depth < 25 else [RULES[symbol][0]]
    if symbol == "STATEMENT" and depth > 12:
        ways = [["flush"]]
    return [word for item in chance.choice(ways) for word in derived(chance, item, depth + 1)]


class GrammarTest(unittest.TestCase):

    def compare(self, start, words, gap):
        places, text = [], ""
        for word in words:
            text += gap
            places.append(len(text))
            text += word
        wrong = first_wrong(start, words)
        expected = None if wrong is None else (places + [len(text)])[wrong]
        try:
            READERS[start](text)
            found = None
        except InvalidSyntax as error:
            found = error.position
        self.assertEqual(found, expected, (start, text))
        return found is None

    def test_derived_texts_and_texts_with_changes(self):
        chance = random.Random(5)
        counts = {True: 0, False: 0}
        while counts[True] < 300 or counts[False] < 600:
            start = chance.choice(sorted(READERS))
            words = derived(chance, start)
            if len(words) > 80 or too_large(words):
                continue
            self.assertTrue(self.compare(start, words, " "))
            counts[True] += 1
            for _ in range(3):
                changed = list(words)
                at = chance.randint(0, len(changed))
                changed[at:at + chance.randint(0, 1)] = [chance.choice(WORDS)]
                if not too_large(changed):
                    counts[self.compare(start, changed, chance.choice([" ", "\n", "  "]))] += 1

    def test_short_texts(self):
        for start in READERS:
            for first in WORDS:
                self.compare(start, [first], "")
                for second in WORDS:
                    self.compare(start, [first, second], " ")


def too_large(words):
    """Whether a limit may be met, which the grammar does not tell."""
    text = "".join(words)
    depth = most = 0
    for word in words:
        depth += (word == "{") - (word == "}")
        most = max(most, depth)
    return most > 5 or "n*n*n*n" in text


if __name__ == "__main__":
    unittest.main()

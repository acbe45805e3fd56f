"""Writing trees as texts, in their one form."""


def show(tree):
    """Return the text of a tree: lines, each ended by a newline."""
    arrays, block = tree
    lines = [f"array {name} {show_size(parts)}" for name, parts in arrays]
    lines.extend(_block_lines(block, ""))
    return "".join([line + "\n" for line in lines])


def show_size(parts):
    """Return the text of the size with these parts."""
    return _sum_text(_terms(parts, []))


def _block_lines(block, indent):
    """Return the list of the lines of a block, each with the indent in front."""
    lines = []
    for statement in block:
        word = statement[0]
        if word == "for":
            _, counter, parts, inner = statement
            lines.append(indent + f"for {counter} {show_size(parts)} " + "{")
            lines.extend(_block_lines(inner, indent + "  "))
            lines.append(indent + "}")
        elif word == "flush":
            lines.append(indent + word)
        else:
            _, array, index = statement
            lines.append(indent + f"{word} {array}[{_index_text(index)}]")
    return lines


def _index_text(index):
    """Return the text of an index."""
    parts, factors = index
    terms = []
    for counter, factor in factors:
        terms.extend(_terms(factor, [counter]))
    terms.extend(_terms(parts, []))
    return _sum_text(terms)


def _terms(parts, counters):
    """Return the pairs (number, words joined to it) of the parts, the highest power first."""
    terms = []
    for power in reversed(range(len(parts))):
        if parts[power] != 0:
            terms.append((parts[power], ["n"] * power + counters))
    return terms


def _sum_text(terms):
    """Return the text of the sum of these terms."""
    text = ""
    for number, words in terms:
        if text == "":
            sign = "-" if number < 0 else ""
        else:
            sign = " - " if number < 0 else " + "
        text = text + sign + _term_text(abs(number), words)
    return text if text != "" else "0"


def _term_text(number, words):
    """Return the text of a term whose number is above 0."""
    if number == 1 and words != []:
        return "*".join(words)
    return "*".join([str(number)] + words)

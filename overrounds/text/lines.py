"""The lines of a text: their form, and what they tell.

A form has a letter for each word: `n` for a name, `i` for an integer.
"""

from overrounds.base.numbers import is_name
from overrounds.errors import ParseError

MAX_DIGITS = 12


def lines_of(text):
    """The lines of a text; ParseError if it is no string."""
    if not isinstance(text, str):
        raise ParseError(None)
    return text.split("\n")


def _integer_of(word):
    """The integer that a word tells, or None if `str` does not write it so."""
    digits = word[1:] if word.startswith("-") else word
    if not 1 <= len(digits) <= MAX_DIGITS or not all(["0" <= sign <= "9" for sign in digits]):
        return None
    return int(word) if str(int(word)) == word else None


def _name_of(word):
    return word if is_name(word) else None


def _parts_of(words, form):
    """What some words tell, or None if they have another form."""
    if len(words) != len(form):
        return None
    parts = [_name_of(word) if kind == "n" else _integer_of(word) for kind, word in zip(form, words)]
    return None if None in parts else tuple(parts)


def parts_of_line(line, first, form):
    """What a line tells behind its first word, or None if it has another first word or form."""
    words = line.split(" ")
    return _parts_of(words[1:], form) if words[0] == first else None


def parts_of_circuit(line):
    """The indices that the line of a circuit tells, or None."""
    return parts_of_line(line, "circuit", "i" * line.count(" ")) or None


def _pairs_from(words, at):
    """The pairs from a word on up to the first one without a comma, and the index behind them.

    If they are none, it is the pair of None and the index.
    """
    pairs = []
    going = True
    while going:
        told = words[at:at + 2]
        going = len(told) == 2 and told[1].endswith(",")
        pair = _parts_of([told[0], told[1][:-1]] if going else told, "ni")
        if pair is None:
            return None, at
        pairs.append(pair)
        at = at + 2
    return tuple(pairs), at


def parts_of_operation(line):
    """The name, the ticks, what is read and what is used of an operation, or None."""
    words = line.split(" ")
    head = _parts_of(words[1:3], "ni")
    if words[0] != "op" or head is None:
        return None
    at = 3
    told = []
    for word in ("reads", "uses"):
        pairs = ()
        if words[at:at + 1] == [word]:
            pairs, at = _pairs_from(words, at + 1)
        if pairs is None:
            return None
        told.append(pairs)
    return (*head, *told) if at == len(words) else None


def rows_of(lines, first, parse):
    """What the lines from an index on tell, by their keys.

    `parse` gives the pair of the key of a line and what it tells, or None. A
    line that tells nothing, or has the key of an earlier one, raises ParseError.
    """
    rows = {}
    for at in range(first, len(lines)):
        row = parse(lines[at])
        if row is None or row[0] in rows:
            raise ParseError(at)
        rows[row[0]] = row[1]
    return rows


def head_of(lines, first):
    """The integer that the first line tells; ParseError if it has another form."""
    parts = parts_of_line(lines[0], first, "i")
    if parts is None:
        raise ParseError(0)
    return parts[0]

"""Houses kept as lines, and houses that rise from such lines."""

from findhall.errors import BadKept
from findhall.house import house_of
from findhall.showing import by_strokes
from findhall.signs import is_key, is_text

MEANT_SIGNS = {"\\\\": "\\", "\\n": "\n"}
CHECK_SIGNS = "0123456789abcdef"
# The greatest number of 32 bits.
MOST_CHECK = 4294967295
FIGURES = "0123456789"
MOST_FIGURES = 9


def flat(text):
    return text.replace("\\", "\\\\").replace("\n", "\\n")


def meant(line):
    text = "".join([MEANT_SIGNS.get(part, part) for part in by_strokes(line)])
    return text if flat(text) == line else None


def check_behind(check, rest):
    for sign in rest:
        turned = ((check << 5) & MOST_CHECK) | (check >> 27)
        check = turned ^ ord(sign)
    return check


def checked_line(check, rest):
    signs = [CHECK_SIGNS[(check >> bits) & 15] for bits in range(28, -1, -4)]
    return "".join(signs) + " " + rest


def kept_lines(house):
    shelves = house.shelves()
    rests = []
    for shelf in shelves:
        rests.append("book " + str(len(shelf)))
        rests.extend([key + " " + flat(text) for key, text in shelf])
    rests.append("end " + str(len(shelves)))
    lines = []
    check = 0
    for rest in rests:
        check = check_behind(check, rest)
        lines.append(checked_line(check, rest))
    return lines


def many_told(figures):
    # None where no book has so many texts.
    if len(figures) > MOST_FIGURES or figures[:1] == "0":
        return None
    if len(figures) == 0 or not all([sign in FIGURES for sign in figures]):
        return None
    return int(figures)


class Rising:
    # What rose so far from kept lines. Each step tells whether some house's lines go on so.

    def __init__(self):
        self.check = 0
        self.stacks = []
        self.known = {}
        self.missing = 0
        self.ended = False

    def goes_on(self, line):
        if not isinstance(line, str) or self.ended:
            return False
        rest = line[9:]
        check = check_behind(self.check, rest)
        if line != checked_line(check, rest):
            return False
        self.check = check
        return self.takes_text(rest) if self.missing > 0 else self.takes_book(rest)

    def takes_text(self, rest):
        parts = rest.partition(" ")
        key = parts[0]
        text = meant(parts[2])
        if parts[1] == "" or not is_key(key) or key in self.known or not is_text(text):
            return False
        self.known[key] = True
        self.stacks[-1].append((key, text))
        self.missing -= 1
        return True

    def takes_book(self, rest):
        if rest == "end " + str(len(self.stacks)):
            self.ended = True
            return True
        many = many_told(rest[5:])
        if not rest.startswith("book ") or many is None:
            return False
        self.stacks.append([])
        self.missing = many
        return True


def risen(lines):
    if not isinstance(lines, list):
        raise BadKept(0)
    rising = Rising()
    for row, line in enumerate(lines):
        if not rising.goes_on(line):
            raise BadKept(row)
    if not rising.ended:
        raise BadKept(len(lines))
    return house_of(rising.stacks)

"""Texts of stores: read sign by sign, and shown."""

from sharedunseen.errors import InvalidText
from sharedunseen.kinds import MOST_ANSWER, MOST_LETTERS
from sharedunseen.stores import LEAST_OFFICES, MOST_OFFICES, MOST_OPERATIONS, MOST_STATES, Store

STATES = "states"
OFFICE = "office"
LETTERS = 26


class Reader:
    """Reads a text of a store, and refuses the first sign with which no such text goes on."""

    def __init__(self, text):
        self.text = text
        self.at = 0
        self.size = 0
        self.offices = []
        self.taken = {}

    def sign(self):
        """The next sign, an empty string behind the last one."""
        return self.text[self.at] if self.at < len(self.text) else ""

    def need(self, word):
        """Reads signs that must stand here."""
        for sign in word:
            if self.sign() != sign:
                raise InvalidText(self.at)
            self.at += 1

    def skip_blanks(self):
        """Reads as many blanks as stand here."""
        while self.sign() == " ":
            self.at += 1

    def need_blanks(self):
        """Reads one blank or more."""
        self.need(" ")
        self.skip_blanks()

    def number(self, least, most):
        """Reads a number of at most `most`, which does not begin with a digit below `least`."""
        value = self.digit()
        if value < least or value > most:
            raise InvalidText(self.at)
        self.at += 1
        while self.digit() >= 0:
            if value == 0 or value * 10 + self.digit() > most:
                raise InvalidText(self.at)
            value = value * 10 + self.digit()
            self.at += 1
        return value

    def digit(self):
        """The next sign as a digit, -1 if it is none."""
        sign = self.sign()
        return int(sign) if "0" <= sign <= "9" else -1

    def next_line(self):
        """Reads the end of a line, and returns whether a further line follows."""
        self.skip_blanks()
        if self.at == len(self.text):
            return False
        if not self.office_fits() and not self.operation_fits():
            raise InvalidText(self.at)
        self.need("\n")
        return True

    def head(self):
        """Reads the first line up to its last word."""
        self.skip_blanks()
        self.need(STATES)
        self.need_blanks()
        self.size = self.number(1, MOST_STATES)

    def line(self):
        """Reads a further line up to its last word."""
        self.skip_blanks()
        word = ""
        while "a" <= self.sign() <= "z" and self.is_begun(word + self.sign()):
            word += self.sign()
            self.at += 1
        if word == OFFICE:
            self.offices.append([])
            return
        if not self.operation_fits() or not 1 <= len(word) <= MOST_LETTERS or word in self.taken:
            raise InvalidText(self.at)
        self.need(":")
        self.taken[word] = True
        self.offices[-1].append(self.operation(word))

    def operation(self, name):
        """Reads what an operation does at each state."""
        ends = []
        answers = []
        for _ in range(self.size):
            self.need_blanks()
            ends.append(self.number(0, self.size - 1))
            self.need("/")
            answers.append(self.number(0, MOST_ANSWER))
        return (name, tuple(ends), tuple(answers))

    def office_fits(self):
        """Whether there may be a further office."""
        return len(self.offices) < MOST_OFFICES

    def operation_fits(self):
        """Whether there may be a further operation."""
        return len(self.offices) > 0 and len(self.taken) < MOST_OPERATIONS

    def is_begun(self, word):
        """Whether the first word of a line here may begin with these letters."""
        if self.office_fits() and OFFICE.startswith(word):
            return True
        return self.operation_fits() and self.is_name_begun(word)

    def is_name_begun(self, word):
        """Whether some name that is not taken begins with these letters."""
        names = 0
        further = 1
        for _ in range(len(word), MOST_LETTERS + 1):
            names += further
            further *= LETTERS
        return len([name for name in self.taken if name.startswith(word)]) < names


def read_store(text):
    """The store of a text."""
    if not isinstance(text, str):
        raise InvalidText(-1)
    reader = Reader(text)
    reader.head()
    while reader.next_line():
        reader.line()
    if len(reader.offices) < LEAST_OFFICES:
        raise InvalidText(len(text))
    return Store(reader.size, tuple([tuple(office) for office in reader.offices]))


def show_store(store):
    """The text of a store with one blank between two words and no other blank."""
    lines = [f"{STATES} {store.size}"]
    for office in store.offices:
        lines.append(OFFICE)
        for name, ends, answers in office:
            words = [f"{end}/{answer}" for end, answer in zip(ends, answers)]
            lines.append(" ".join([name + ":"] + words))
    return "\n".join(lines)

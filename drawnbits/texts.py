"""Texts of services: how a standing is written, and read back line by line."""

from drawnbits.claims import is_claim, is_kept, is_name
from drawnbits.errors import BadText
from drawnbits.programs import MOST_DEEP, is_program, size_of


def text_of(standing):
    """The text of a standing of a service."""
    programs, stock, claims = standing
    lines = ["put " + " ".join([name] + words_of_program(program)) for name, program in programs]
    if stock != ():
        lines.append("stock " + "".join([str(bit) for bit in stock]))
    return "\n".join(lines + ["claim " + " ".join(words_of_claim(claim)) for claim in claims])


def word_of(fraction):
    """A fraction as it is written."""
    return "/".join([str(number) for number in fraction])


def words_of_numbers(numbers):
    """Integers as they are written, each one word."""
    return [str(number) for number in numbers]


def words_of_program(program):
    """The words of a program."""
    word = program[0]
    if word == "value" or word == "place":
        return [word] + words_of_numbers(program[1:])
    if word == "draw":
        return [word, str(len(program[1]))] + [word_of(chance) for chance in program[1]]
    inner = [word] + words_of_program(program[1])
    if word == "bind":
        return inner + [part for case in program[2] for part in words_of_program(case)]
    if word == "again":
        return inner + [str(len(program[2]))] + words_of_numbers(program[2])
    return inner + [str(program[3])] + words_of_numbers(program[2])


def words_of_claim(claim):
    """The words of a claim."""
    word = claim[0]
    if word == "alike":
        return list(claim)
    if word == "chance":
        return [word, claim[1], str(claim[2]), word_of(claim[3])]
    if word == "bits":
        return [word, claim[1], word_of(claim[2])]
    return [word, claim[1]] + words_of_numbers(claim[2])


def is_numeral(word):
    """Whether a word is an integer from 0 on as Python writes it."""
    return word.isascii() and word.isdigit() and (word == "0" or word[0] != "0")


class Line:
    """A line of a text, read word by word from its beginning; what is wrong in it is a BadText with its number."""

    def __init__(self, line, at):
        self.words = line.split(" ")
        self.taken = 0
        self.at = at

    def refuse_unless(self, is_right):
        """Raises the error of this line if something is not right."""
        if not is_right:
            raise BadText(self.at)

    def is_over(self):
        """Whether all words are read."""
        return self.taken == len(self.words)

    def word(self):
        """The next word."""
        self.refuse_unless(not self.is_over())
        self.taken = self.taken + 1
        return self.words[self.taken - 1]

    def number(self):
        """The next word, an integer from 0 on."""
        word = self.word()
        self.refuse_unless(is_numeral(word))
        return int(word)

    def numbers(self, many):
        """The next so many words, integers from 0 on."""
        return tuple([self.number() for _ in range(many)])

    def fraction(self):
        """The next word, two integers from 0 on that may be a fraction."""
        top, _, bottom = self.word().partition("/")
        self.refuse_unless(is_numeral(top) and is_numeral(bottom))
        return (int(top), int(bottom))

    def bits(self):
        """The next word, a row of bits."""
        word = self.word()
        self.refuse_unless(word != "" and all([letter in "01" for letter in word]))
        return tuple([int(letter) for letter in word])

    def program(self, deep):
        """The program that is told by the next words, at most so deep."""
        self.refuse_unless(deep > 0)
        word = self.word()
        if word == "value" or word == "place":
            made = (word,) + self.numbers(2)
        elif word == "draw":
            made = (word, tuple([self.fraction() for _ in range(self.number())]))
        else:
            made = self.program_of_programs(word, deep)
        # Each program in a program is one itself, so what is told further on is read by what is right so far.
        self.refuse_unless(is_program(made))
        return made

    def program_of_programs(self, word, deep):
        """What the words behind the first one of a program tell in which others stand."""
        self.refuse_unless(word == "bind" or word == "again" or word == "map")
        inner = self.program(deep - 1)
        if word == "bind":
            return (word, inner, tuple([self.program(deep - 1) for _ in range(size_of(inner))]))
        number = self.number()
        if word == "again":
            return (word, inner, self.numbers(number))
        return (word, inner, self.numbers(size_of(inner)), number)

    def claim(self):
        """What the next words tell, if they are those of a claim."""
        word, name = self.word(), self.word()
        if word == "alike":
            return (word, name, self.word())
        if word == "chance":
            return (word, name, self.number(), self.fraction())
        if word == "bits":
            return (word, name, self.fraction())
        return (word, name, self.numbers(len(self.words) - self.taken))


def standing_of(text):
    """The standing that a text of a service tells, which is not empty.

    The lines ahead of one make a text by themselves, so a line is wrong if they do not with it.
    """
    programs, stock, claims = {}, (), []
    last = ""
    for at, told in enumerate(text.split("\n"), 1):
        line = Line(told, at)
        word = line.word()
        is_first = stock == () and claims == []
        if word == "put" and is_first:
            name = line.word()
            line.refuse_unless(is_name(name) and name > last)
            programs[name] = line.program(MOST_DEEP)
            last = name
        elif word == "stock" and is_first:
            stock = line.bits()
        else:
            line.refuse_unless(word == "claim")
            claim = line.claim()
            line.refuse_unless(is_claim(programs, claim) and claim not in claims and is_kept(programs, claim))
            claims.append(claim)
        line.refuse_unless(line.is_over())
    return (tuple(list(programs.items())), stock, tuple(claims))

"""The four kinds of weights: fractions, residues, costs and truths."""

from weighwalk.errors import NoKind, NoText, NoWeight, WrongKind
from weighwalk.ratios import divisor, fraction, is_prime, is_whole

FIGURES = "0123456789"
MOST_FIGURES = 30
GREATEST_PRIME = 1000000


def is_written(text):
    # Python's own isdigit and int take signs of other scripts, blanks and more.
    if not isinstance(text, str):
        return False
    figures = text[1:] if text.startswith("-") else text
    if len(figures) == 0 or len(figures) > MOST_FIGURES:
        return False
    if figures[0] == "0":
        return text == "0"
    return all([sign in FIGURES for sign in figures])


def read_whole(text):
    if not is_written(text):
        raise NoText("no whole number is written so")
    return int(text)


def need_text(text):
    if not isinstance(text, str):
        raise NoText("only a text is read")


class Kind:
    pass


class Field(Kind):
    def is_field(self):
        return True

    def picks(self):
        return False


class Picking(Kind):
    def is_field(self):
        return False

    def picks(self):
        return True

    def minus(self, x):
        raise WrongKind("a kind that picks has no minus")

    def inverse(self, x):
        raise WrongKind("a kind that picks has no inverse")


class Fractions(Field):
    def told(self):
        return "fractions"

    def nought(self):
        return (0, 1)

    def one(self):
        return (1, 1)

    def plus(self, x, y):
        return fraction(x[0] * y[1] + y[0] * x[1], x[1] * y[1])

    def times(self, x, y):
        return fraction(x[0] * y[0], x[1] * y[1])

    def minus(self, x):
        return (-x[0], x[1])

    def inverse(self, x):
        # The inverse of nought would have 0 as its bottom, which fraction refuses.
        return fraction(x[1], x[0])

    def is_weight(self, thing):
        if not isinstance(thing, tuple) or len(thing) != 2:
            return False
        if not is_whole(thing[0]) or not is_whole(thing[1]):
            return False
        return thing[1] >= 1 and divisor(thing[0], thing[1]) == 1

    def shown(self, x):
        top = x[0]
        bottom = x[1]
        if bottom == 1:
            return str(top)
        return f"{top}/{bottom}"

    def read(self, text):
        need_text(text)
        pieces = text.partition("/")
        top = read_whole(pieces[0])
        if pieces[1] == "":
            return (top, 1)
        bottom = read_whole(pieces[2])
        if bottom < 2 or divisor(top, bottom) != 1:
            raise NoText("a fraction is written in lowest terms")
        return (top, bottom)


class Residues(Field):
    def __init__(self, prime):
        # The bound is asked first: a great number would be tried for very long.
        if not is_whole(prime) or prime > GREATEST_PRIME or not is_prime(prime):
            raise NoKind("residues are those of a prime from 2 to 1000000")
        self.prime = prime

    def told(self):
        prime = self.prime
        return f"residues {prime}"

    def nought(self):
        return 0

    def one(self):
        return 1

    def plus(self, x, y):
        return (x + y) % self.prime

    def times(self, x, y):
        return x * y % self.prime

    def minus(self, x):
        return -x % self.prime

    def inverse(self, x):
        if x == 0:
            raise NoWeight("nought has no inverse")
        # x taken as a factor prime - 1 times comes to one; so once less is its inverse.
        product = 1
        square = x
        left = self.prime - 2
        while left > 0:
            if left % 2 == 1:
                product = self.times(product, square)
            square = self.times(square, square)
            left = left // 2
        return product

    def is_weight(self, thing):
        return is_whole(thing) and 0 <= thing < self.prime

    def shown(self, x):
        return str(x)

    def read(self, text):
        number = read_whole(text)
        if not self.is_weight(number):
            raise NoText("a residue is from 0 on and below the prime")
        return number


class Costs(Picking):
    def told(self):
        return "costs"

    def nought(self):
        return None

    def one(self):
        return 0

    def plus(self, x, y):
        if x is None:
            return y
        if y is None:
            return x
        return min(x, y)

    def times(self, x, y):
        if x is None or y is None:
            return None
        return x + y

    def is_weight(self, thing):
        return thing is None or is_whole(thing)

    def shown(self, x):
        if x is None:
            return "none"
        return str(x)

    def read(self, text):
        need_text(text)
        if text == "none":
            return None
        return read_whole(text)


class Truths(Picking):
    def told(self):
        return "truths"

    def nought(self):
        return False

    def one(self):
        return True

    def plus(self, x, y):
        return x or y

    def times(self, x, y):
        return x and y

    def is_weight(self, thing):
        return isinstance(thing, bool)

    def shown(self, x):
        return "yes" if x else "no"

    def read(self, text):
        need_text(text)
        if text == "yes":
            return True
        if text == "no":
            return False
        raise NoText("a truth is written yes or no")


def residues_called(text):
    pieces = text.partition(" ")
    if pieces[0] != "residues" or not is_written(pieces[2]):
        raise NoKind("no kind is called so")
    return Residues(int(pieces[2]))


def kind_of(text):
    if not isinstance(text, str):
        raise NoKind("a kind is called by a text")
    if text == "fractions":
        return Fractions()
    if text == "costs":
        return Costs()
    if text == "truths":
        return Truths()
    return residues_called(text)

"""Sieves: which rows each of them lets through. Only turnleaf.sifting makes them."""

from turnleaf.values import value_before


class Sieve:
    def __init__(self, text):
        self.text = text

    def lets(self, values):
        return True

    def shown(self):
        return self.text


class AllSieve(Sieve):
    pass


class NoneSieve(Sieve):
    def __init__(self, text, place):
        Sieve.__init__(self, text)
        self.place = place

    def lets(self, values):
        return values[self.place] is None


class ValueSieve(Sieve):
    def __init__(self, text, place, value):
        Sieve.__init__(self, text)
        self.place = place
        self.value = value

    def lets(self, values):
        value = values[self.place]
        # None is before every value, but is no answer to a question about values.
        return value is not None and self.fits(value)

    def fits(self, value):
        return value == self.value


class IsSieve(ValueSieve):
    pass


class UnderSieve(ValueSieve):
    def fits(self, value):
        return value_before(value, self.value)


class OverSieve(ValueSieve):
    def fits(self, value):
        return value_before(self.value, value)


class HoldsSieve(ValueSieve):
    def fits(self, value):
        return self.value in value


class NotSieve(Sieve):
    def __init__(self, text, one):
        Sieve.__init__(self, text)
        self.one = one

    def lets(self, values):
        return not self.one.lets(values)


class PairSieve(Sieve):
    def __init__(self, text, one, other):
        Sieve.__init__(self, text)
        self.one = one
        self.other = other


class BothSieve(PairSieve):
    def lets(self, values):
        return self.one.lets(values) and self.other.lets(values)


class EitherSieve(PairSieve):
    def lets(self, values):
        return self.one.lets(values) or self.other.lets(values)

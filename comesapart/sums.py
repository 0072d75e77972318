"""Sums of products of unknown weights (points 54 and 55)."""


def added_up(products):
    """Return the products, those with the same weights as one, without those that vanish, ascending by weights."""
    table = {}
    for coefficient, weights in products:
        key = tuple(sorted(weights))
        table[key] = table.get(key, 0) + coefficient
    return tuple([(table[key], key) for key in sorted(table) if table[key] != 0])


class Sum:
    """A sum of products, which never changes."""

    def __init__(self, products):
        self._products = added_up(products)

    def __add__(self, other):
        if not isinstance(other, Sum):
            return NotImplemented
        return Sum(self._products + other._products)

    def __sub__(self, other):
        if not isinstance(other, Sum):
            return NotImplemented
        return Sum(self._products + tuple([(-coefficient, weights) for coefficient, weights in other._products]))

    def __mul__(self, other):
        if isinstance(other, int):
            return Sum([(coefficient * other, weights) for coefficient, weights in self._products])
        if not isinstance(other, Sum):
            return NotImplemented
        return Sum([(coefficient * factor, weights + more) for coefficient, weights in self._products
                    for factor, more in other._products])

    def __rmul__(self, other):
        if not isinstance(other, int):
            return NotImplemented
        return Sum([(other * coefficient, weights) for coefficient, weights in self._products])

    def __neg__(self):
        return Sum([(-coefficient, weights) for coefficient, weights in self._products])

    def __eq__(self, other):
        return isinstance(other, Sum) and self._products == other._products

    def __bool__(self):
        return bool(self._products)

    @property
    def products(self):
        """The products: tuples of a coefficient and the tuple of the weights, ascending by weights."""
        return self._products

    @classmethod
    def number(cls, value):
        """Return the sum that has the value for all weights."""
        return cls([(value, ())])

    @classmethod
    def weight(cls, tie):
        """Return the weight of the tie as a sum."""
        return cls([(1, (tie,))])

    def value(self, numbers):
        """Return the value of the sum where the numbers are the weights of the ties."""
        total = 0
        for coefficient, weights in self._products:
            worth = coefficient
            for tie in weights:
                worth = worth * numbers[tie]
            total = total + worth
        return total

    def used(self):
        """Return the numbers of the weights that occur, ascending."""
        return sorted({tie for _, weights in self._products for tie in weights})

    def put(self, tie, number):
        """Return the sum in which the number replaces the weight of the tie."""
        changed = []
        for coefficient, weights in self._products:
            worth = coefficient
            for _ in range(weights.count(tie)):
                worth = worth * number
            changed.append((worth, [other for other in weights if other != tie]))
        return Sum(changed)

    def divided(self, tie):
        """Return the sums (factor, rest): the weight of the tie times the factor plus the rest is the sum."""
        taken = []
        for coefficient, weights in self._products:
            if tie in weights:
                at = weights.index(tie)
                taken.append((coefficient, weights[:at] + weights[at + 1:]))
        return (Sum(taken), Sum([product for product in self._products if tie not in product[1]]))

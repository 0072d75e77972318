"""The inverse of the skew table of a paired web (points 59 and 60)."""

from comesapart.bridges import is_only_pairing
from comesapart.couples import mates_without
from comesapart.detours import points_without, strict_paths
from comesapart.groups import neighbour_lists
from comesapart.pairedwebs import PairedWeb
from comesapart.pairings import mates_of_pairs
from comesapart.pfaffians import check_known, pfaffian
from comesapart.sums import Sum


def inverse_entry(paired, i, j):
    """Return the numerator and the denominator of the entry in row i and column j."""
    check_known(paired, [i, j])
    denominator = pfaffian(paired, list(range(paired.points)))
    if i == j:
        return (Sum([]), denominator)
    numerator = pfaffian(paired, points_without(paired, i, j))
    return (numerator if (i + j) % 2 == (0 if i < j else 1) else -numerator, denominator)


def never_zero(paired, i, j):
    """Tell whether the numerator is not 0 for all weights other than 0."""
    check_known(paired, [i, j])
    if i == j:
        return False
    mates = mates_of_pairs(paired)
    rest = mates_without(neighbour_lists(list(mates), paired.all_ties), mates, i, j)
    return rest is not None and is_only_pairing(paired_by(paired.all_ties, rest))


def paired_by(ties, mates):
    """Return the paired web in which the couples are the pairs; the ties between them that make none are free."""
    numbers = {}
    for point in sorted(mates):
        if point not in numbers:
            numbers[point] = len(numbers)
            numbers[mates[point]] = len(numbers)
    joined = [(numbers[one], numbers[other]) for one, other in ties if one in numbers and other in numbers]
    for pair in range(len(numbers) // 2):
        couple = (2 * pair, 2 * pair + 1)
        joined.remove(couple if couple in joined else (2 * pair + 1, 2 * pair))
    return PairedWeb(len(numbers) // 2, joined)


def path_products(paired, i, j):
    """Return for each strict path from i to j the free ties and the pairs that it walks, ascending."""
    found = []
    for steps in strict_paths(paired, i, j):
        walked = sorted([tie for tie, _ in steps])
        found.append(([tie for tie in walked if tie >= paired.pairs], [tie for tie in walked if tie < paired.pairs]))
    return found

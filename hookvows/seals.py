"""Seals: which powers must be taken away, so that vows are kept."""

from hookvows.basics import is_count
from hookvows.checks import check_host, check_powers
from hookvows.errors import InvalidPrices, TooMany
from hookvows.masks import mask_of, numbers_in
from hookvows.vows import are_kept, check_vows

MOST_POWERS = 8


class Sealing:
    """Which sets of some powers keep the vows of a host. A set is a mask of the places of its powers."""

    def __init__(self, host, vows, powers):
        self._host = host
        self._vows = vows
        self._powers = sorted(powers, key=str)
        self._all = mask_of(list(range(len(powers))))
        self._kept = {}

    def powers_of(self, sealed):
        """The sorted list of the powers of the set."""
        return [self._powers[place] for place in numbers_in(sealed)]

    def keeps(self, sealed):
        """Whether all vows are kept when the set is sealed."""
        if sealed not in self._kept:
            self._kept[sealed] = are_kept(self._host - self.powers_of(sealed), self._vows)
        return self._kept[sealed]

    def borders(self):
        """The least sets that keep the vows, and the least ones that break them.

        A set that keeps them has something of each one that breaks them. So the next set to ask for is a least one of
        those that have something of all that are known to break them.
        """
        keeping = []
        breaking = []
        sealed = 0
        while sealed is not None:
            if self.keeps(sealed):
                keeping.append(sealed)
            else:
                breaking.append(self._least_break(self._all & ~sealed))
            sealed = self._next(keeping, breaking)
        return keeping, breaking

    def _least_break(self, left):
        """A least set that breaks the vows, of the powers of this one, which breaks them."""
        for place in numbers_in(left):
            fewer = left & ~(1 << place)
            if not self.keeps(self._all & ~fewer):
                left = fewer
        return left

    def _next(self, keeping, breaking):
        """A least set that has something of all that break, and is not known to keep; None if there is none."""
        for sealed in range(self._all + 1):
            if sealed not in keeping and _meets_all(sealed, breaking):
                if not any([_meets_all(sealed & ~(1 << place), breaking) for place in numbers_in(sealed)]):
                    return sealed
        return None

    def listed(self, sets):
        """The sorted lists of the powers of the sets, ordered by their length and then as lists."""
        lists = [self.powers_of(sealed) for sealed in sets]
        found = []
        for many in range(len(self._powers) + 1):
            found.extend(sorted([powers for powers in lists if len(powers) == many], key=str))
        return found


def _meets_all(sealed, sets):
    return all([sealed & other > 0 for other in sets])


def keeps(host, vows, powers):
    """Whether all the vows are kept when these powers are sealed."""
    _check(host, vows, powers)
    return Sealing(host, vows, powers).keeps((1 << len(powers)) - 1)


def least_seals(host, vows, powers):
    """The list of the least sets of these powers that keep the vows."""
    _check(host, vows, powers)
    sealing = Sealing(host, vows, powers)
    return sealing.listed(sealing.borders()[0])


def least_breaks(host, vows, powers):
    """The list of the least sets of these powers that break the vows when all the others are sealed."""
    _check(host, vows, powers)
    sealing = Sealing(host, vows, powers)
    return sealing.listed(sealing.borders()[1])


def needed_seals(host, vows, powers):
    """The sorted list of the powers that belong to all least seals; None if there are no least seals."""
    found = least_seals(host, vows, powers)
    if len(found) == 0:
        return None
    return [power for power in found[0] if all([power in sealed for sealed in found])]


def cheapest_seals(host, vows, prices):
    """The price and the powers of the cheapest least seals of the powers that have prices; None if there are none."""
    check_host(host)
    check_vows(host, vows)
    if not isinstance(prices, dict) or not all([host.lets(power) and is_count(prices[power]) for power in prices]):
        raise InvalidPrices(prices)
    best = None
    for sealed in least_seals(host, vows, list(prices)):
        price = sum([prices[power] for power in sealed])
        if best is None or price < best[0]:
            best = (price, sealed)
    return best


def _check(host, vows, powers):
    check_host(host)
    check_vows(host, vows)
    check_powers(host, powers)
    if len(powers) > MOST_POWERS:
        raise TooMany("powers", MOST_POWERS)

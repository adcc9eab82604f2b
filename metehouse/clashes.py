"""What is known not to go together: branches of decisions, each with a number and a bit."""

# So many clashes are remembered for each branch, and none of more branches than these.
MOST_CLASHES = 200
MOST_MEMBERS = 12


def members(bits):
    """The numbers of the bits that are set."""
    found = []
    while bits != 0:
        number = bits.bit_length() - 1
        found.append(number)
        bits = bits & ~(1 << number)
    return found


class Clashes:
    """The clashes that were met so far, each with what refutes its branches together."""

    def __init__(self, count):
        # Most clashes have two branches: for each branch the bits of those that it clashes with.
        self.enemies = [0 for _ in range(count)]
        self.pairs = {}
        self.larger = [[] for _ in range(count)]

    def remember(self, refuted):
        """Remember a clash; what refutes is a pair of a tree and the bits of the branches."""
        numbers = members(refuted[1])
        if len(numbers) == 2:
            self.remember_pair(numbers[0], numbers[1], refuted)
        elif len(numbers) <= MOST_MEMBERS:
            for number in numbers:
                if len(self.larger[number]) >= MOST_CLASHES:
                    del self.larger[number][:MOST_CLASHES // 2]
                self.larger[number].append((refuted[1] & ~(1 << number), refuted))

    def remember_pair(self, first, second, refuted):
        """Remember a clash of two branches."""
        self.enemies[first] = self.enemies[first] | 1 << second
        self.enemies[second] = self.enemies[second] | 1 << first
        self.pairs[(first, second)] = refuted

    def find_clash(self, number, held):
        """What refutes a branch together with the held ones, or None as far as is known."""
        hostile = self.enemies[number] & held
        if hostile != 0:
            other = hostile.bit_length() - 1
            return self.pairs[(max(number, other), min(number, other))]
        for others, refuted in self.larger[number]:
            if others & ~held == 0:
                return refuted
        return None

"""The search for a world that solves a problem, or for a tree that shows that there is none."""

from metehouse.paths import Node, Path
from metehouse.truths import Truths

# So many doubtful decisions are looked at closely before one is taken.
MOST_CLOSE = 12


class Search(Path):
    """A path that goes on until a world is found or everything is refuted."""

    def __init__(self, problem):
        super().__init__(problem)
        self.truths = Truths(problem.demands)
        self.found = None

    def solve(self):
        """The world that was found as ("world", world), or ("tree", tree)."""
        while True:
            refuted = self.descend()
            if refuted is None:
                return ("world", self.found)
            refuted = self.climb(refuted)
            if refuted is not None:
                return ("tree", refuted[0])

    def climb(self, refuted):
        """Go back to a branch that is still open; if there is none, what refutes everything."""
        while len(self.nodes) > 0:
            node = self.leave()
            # What does not need a decision refutes the path before it as well.
            if refuted[1] & self.bit_of(node.decision, node.branch) != 0:
                node.results[node.branch] = refuted
                self.look_back(node)
                if node.open_count() > 0:
                    self.enter(node)
                    return None
                refuted = self.combined(node)
        return refuted

    def look_back(self, node):
        """Refute open branches of a node by what has become known since it was made."""
        for branch, result in enumerate(list(node.results)):
            if result is None:
                node.results[branch] = self.known_clash(node.decision, branch)

    def descend(self):
        """Decide on and on until a world is found, or until the path is refuted: return by what."""
        while True:
            refuted = self.take_forced()
            if refuted is not None:
                return refuted
            entries = self.tableau.fit()
            if entries is not None:
                return self.clash(entries)
            self.found = self.tableau.world(self.tableau.small_enough())
            node = self.choose()
            if node is None:
                return None
            count = node.open_count()
            if count == 0:
                return self.combined(node)
            if count > 1:
                node.restore = self.tableau.set_mark()
            self.enter(node)

    def take_forced(self):
        """Take all decisions that have one branch alone; what refutes the path if one has none."""
        for index, teller in enumerate(self.tellers):
            decision = self.mind_of(index)
            if decision not in self.taken and self.lying[teller.share] == self.numbers[teller.share]:
                self.enter(Node(decision, [None, self.over(index)]))
        for index, demand in enumerate(self.demands):
            if len(demand.choices) < 2 and index not in self.taken and self.must_hold(index):
                if len(demand.choices) == 0:
                    return self.combined(Node(index, []))
                self.enter(Node(index, [None]))
        return None

    def is_broken(self, index):
        """True if a demand that is not decided does not hold in the world that was found."""
        return index not in self.taken and self.truths.way_of(index) is None

    def doubtful(self):
        """The decisions about what the world that was found breaks."""
        self.truths.look_at(self.found)
        found, liars = [], []
        lying = dict(self.lying)
        for index, demand in enumerate(self.demands):
            if demand.teller is None and self.is_broken(index):
                found.append(index)
        for number, teller in enumerate(self.tellers):
            decision = self.mind_of(number)
            if self.taken.get(decision, 0) == 0:
                broken = [index for index in teller.told if self.is_broken(index)]
                if decision in self.taken:
                    found.extend(broken)
                elif len(broken) > 0:
                    lying[teller.share] += 1
                    liars.append(decision)
        # Who lies in this world is no matter as long as there are not too many of them.
        return found + [liar for liar in liars if lying[self.share_of(liar)] > self.numbers[self.share_of(liar)]]

    def choose(self):
        """The decision that seems to be the best next one; None if the world that was found breaks nothing."""
        best, best_guilt, best_count = None, 0, 0
        doubts = sorted([(-self.guilt[decision], decision) for decision in self.doubtful()])
        for praise, decision in doubts[:MOST_CLOSE]:
            node = self.look_at(decision)
            count = node.open_count()
            if count < 2:
                return node
            if best is None or count * (1 + best_guilt) < best_count * (1 - praise):
                best, best_guilt, best_count = node, -praise, count
        return best

    def look_at(self, decision):
        """The decision, with what refutes its branches right now."""
        if decision < len(self.demands):
            count = len(self.demands[decision].choices)
            return Node(decision, [self.refuted_way(decision, way) for way in range(count)])
        known = self.known_clash(decision, 0)
        if known is None:
            known = self.refuted_honesty(self.tellers[decision - len(self.demands)].told)
        return Node(decision, [known, self.known_clash(decision, 1)])

    def refuted_way(self, index, way):
        """What refutes the rows on the path with those of this way, or None."""
        known = self.known_clash(index, way)
        if known is not None:
            return known
        mark, count = self.tableau.set_mark(), len(self.rows)
        self.add_rows(index, way)
        entries = self.tableau.fit()
        found = None if entries is None else self.clash(entries)
        del self.rows[count:]
        self.tableau.back(mark)
        return found

    def refuted_honesty(self, told):
        """What refutes right now that the teller of these demands is honest, or None."""
        alone = [index for index in told if len(self.demands[index].choices) == 1]
        others = [index for index in told if len(self.demands[index].choices) != 1]
        mark, count, held = self.tableau.set_mark(), len(self.rows), self.held
        for index in alone:
            self.held = self.held | self.bit_of(index, 0)
        found = self.clash_among(alone)
        if found is None:
            for index in alone:
                self.add_rows(index, 0)
            entries = self.tableau.fit()
            found = self.refuted_demand(others) if entries is None else self.clash(entries)
            del self.rows[count:]
            self.tableau.back(mark)
        self.held = held
        for index in alone:
            if found is not None and found[1] & self.bit_of(index, 0) != 0:
                found = self.combined(Node(index, [found]))
        return found

    def clash_among(self, alone):
        """What refutes the held branches, if a clash that came before with one of these demands does so."""
        for index in alone:
            known = self.known_clash(index, 0)
            if known is not None:
                return known
        return None

    def refuted_demand(self, indexes):
        """What refutes right now all ways of one of the demands, or None."""
        for index in indexes:
            results = []
            for way in range(len(self.demands[index].choices)):
                results.append(self.refuted_way(index, way))
                if results[-1] is None:
                    break
            if None not in results:
                return self.combined(Node(index, results))
        return None

"""Paths of decisions: a way of a demand, or whether a teller is honest, one after another.

A decision has an index: that of the demand, or that of the teller plus the number of the
demands. Its branches are the ways, or 0 for honest and 1 for lying. Each branch has a bit.

What refutes a path is a pair (tree, used). Its trees are ("weights", weights) with a dict from
(demand, row) to the weight, ("over", budget), and ("choice", decision, trees) with a tree for
each branch. `used` has the bits of the branches that the tree needs; so decisions that it does
not need are left out, and it refutes each other path that has these branches.
"""

from metehouse.clashes import Clashes
from metehouse.linear import whole_weights
from metehouse.tableau import Tableau


class Node:
    """A decision on the path."""

    def __init__(self, decision, results):
        self.decision = decision
        # For each branch what refutes it, or None as long as it is open.
        self.results = results
        self.branch = None
        self.start = 0
        self.restore = None

    def open_count(self):
        """The number of branches that are not refuted."""
        return self.results.count(None)


class Path:
    """The decisions, the rows that they bring, and which of them clashed so far."""

    def __init__(self, problem):
        self.demands = problem.demands
        self.tellers = problem.tellers
        self.numbers = problem.numbers
        self.tableau = Tableau(problem.labels)
        # For each row its demand, the index of the way, and its own index in the way.
        self.rows = []
        self.nodes = []
        self.taken = {}
        self.lying = {share: 0 for share in problem.numbers}
        # The number of the first branch of each decision, and how often it had a part in a clash.
        self.firsts = []
        count = 0
        for demand in self.demands:
            self.firsts.append(count)
            count += len(demand.choices)
        for _ in self.tellers:
            self.firsts.append(count)
            count += 2
        self.guilt = [0 for _ in self.firsts]
        self.held = 0
        self.past = Clashes(count)

    def bit_of(self, decision, branch):
        """The bit of a branch of a decision."""
        return 1 << (self.firsts[decision] + branch)

    def mind_of(self, teller):
        """The decision whether a teller is honest."""
        return len(self.demands) + teller

    def cause(self, decision):
        """The bit of the branch by which a demand must hold; 0 if it must hold anyway, and for tellers."""
        if decision >= len(self.demands) or self.demands[decision].teller is None:
            return 0
        return self.bit_of(self.mind_of(self.demands[decision].teller), 0)

    def must_hold(self, index):
        """True if the demand must hold on this path."""
        cause = self.cause(index)
        return cause == 0 or self.held & cause != 0

    def known_clash(self, decision, branch):
        """What refutes the path with this branch, as far as it is known."""
        return self.past.find_clash(self.firsts[decision] + branch, self.held)

    def enter(self, node):
        """Take the first open branch of a node."""
        decision, branch = node.decision, node.results.index(None)
        node.branch = branch
        node.start = len(self.rows)
        self.nodes.append(node)
        self.taken[decision] = branch
        self.held = self.held | self.bit_of(decision, branch)
        if decision < len(self.demands):
            self.add_rows(decision, branch)
        elif branch == 1:
            self.lying[self.share_of(decision)] += 1

    def leave(self):
        """Take the latest decision back: its node."""
        node = self.nodes.pop()
        if node.restore is not None:
            self.tableau.back(node.restore)
        del self.rows[node.start:]
        del self.taken[node.decision]
        self.held = self.held & ~self.bit_of(node.decision, node.branch)
        if node.decision >= len(self.demands) and node.branch == 1:
            self.lying[self.share_of(node.decision)] -= 1
        return node

    def share_of(self, decision):
        """The budget of the teller of a decision."""
        return self.tellers[decision - len(self.demands)].share

    def add_rows(self, index, way):
        """Put the rows of a way of a demand on the path."""
        for number, (form, sign) in enumerate(self.demands[index].choices[way]):
            self.tableau.bound_by(len(self.rows), form, sign)
            self.rows.append((index, way, number))

    def combined(self, node):
        """What refutes the path if each branch of a node behind it is refuted."""
        used = 0
        for branch, (_, part) in enumerate(node.results):
            used = used | part & ~self.bit_of(node.decision, branch)
        trees = [tree for tree, _ in node.results]
        refuted = (("choice", node.decision, trees), used | self.cause(node.decision))
        self.past.remember(refuted)
        return refuted

    def clash(self, entries):
        """What refutes the path by its rows alone, from what the tableau found."""
        weights = whole_weights(entries, len(self.rows), 0)[1]
        closing, ways = {}, {}
        for (index, way, number), weight in zip(self.rows, weights):
            if weight != 0:
                closing[(index, number)] = weight
                ways[index] = way
        used = 0
        for index, way in ways.items():
            used = used | self.bit_of(index, way)
            self.add_guilt(index)
        refuted = (("weights", closing), used)
        self.past.remember(refuted)
        return refuted

    def add_guilt(self, index):
        """Count the part of a demand in a clash."""
        self.guilt[index] += 1
        if self.demands[index].teller is not None:
            self.guilt[self.mind_of(self.demands[index].teller)] += 1

    def over(self, teller):
        """What refutes the path if one more teller lies of a budget in which no more may lie."""
        share = self.tellers[teller].share
        used = self.bit_of(self.mind_of(teller), 1)
        for decision, branch in self.taken.items():
            if decision >= len(self.demands) and branch == 1 and self.share_of(decision) == share:
                used = used | self.bit_of(decision, 1)
        return (("over", share), used)

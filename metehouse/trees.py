"""Trees of cases, from those of a search to those that the document describes."""


class Visit:
    """A place in a tree of a search: the tree there, the keys of the rows on the way, and the decisions."""

    def __init__(self, tree, path, taken):
        # A tree that was met on another path may ask what is decided on this one.
        while tree[0] == "choice" and tree[1] in taken:
            tree = tree[2][taken[tree[1]]]
        self.tree = tree
        self.path = path
        self.taken = taken
        self.branches = tree[2] if tree[0] == "choice" else []

    def below(self, problem):
        """The visits right below, one for each branch."""
        found = []
        for branch, tree in enumerate(self.branches):
            decision = self.tree[1]
            more = []
            if decision < len(problem.demands):
                rows = problem.demands[decision].choices[branch]
                more = [(decision, number) for number in range(len(rows))]
            found.append(Visit(tree, [*self.path, *more], {**self.taken, decision: branch}))
        return found

    def plain(self, problem, branches):
        """The tree as the document has it, with such trees for the branches."""
        if self.tree[0] == "weights":
            return ("weights", [self.tree[1].get(key, 0) for key in self.path])
        if self.tree[0] == "over":
            return self.tree
        decision = self.tree[1]
        if decision < len(problem.demands):
            return ("split", problem.demands[decision].label, branches)
        return ("liar", problem.tellers[decision - len(problem.demands)].name, *branches)


def whole_tree(problem, tree):
    """A tree of a search as the document has it, with the weights of all rows of each path."""
    visits = []
    todo = [Visit(tree, [], {})]
    while len(todo) > 0:
        visit = todo.pop()
        visits.append(visit)
        todo.extend(visit.below(problem)[::-1])
    # Each tree was visited before those below it; so backwards these are ready for it.
    ready = []
    for visit in visits[::-1]:
        start = len(ready) - len(visit.branches)
        branches = ready[start:][::-1]
        del ready[start:]
        ready.append(visit.plain(problem, branches))
    return ready[0]


def places_of(tree):
    """The places of all splits of a tree, each once."""
    found = {}
    todo = [tree]
    while len(todo) > 0:
        here = todo.pop()
        if here[0] == "split":
            found[here[1]] = True
            todo.extend(here[2])
        elif here[0] == "liar":
            todo.extend([here[2], here[3]])
    return list(found)

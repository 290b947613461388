"""The full walk: a program done line by line, with both looks ahead of each place."""

from lookspare.lines import gives, is_ask, is_place, place_of, ways


class Walk:
    def __init__(self, program, rows, taken, budget):
        self.lines = list(program[2])
        self.rows = [list(row) for row in rows]
        self.coming = list(taken)
        self.budget = budget
        self.at = 0
        self.numbers = [0] * program[0]
        self.heard = []
        self.done = 0
        self.ended = None

    def step(self):
        if self.ended is not None:
            return
        self.pass_asks()
        line = self.lines[self.at]
        word = self.ending(line)
        if word is not None:
            self.ended = (word, self.at)
            return
        self.do(line)
        self.go_on(line)
        self.done += 1

    def told(self):
        return (self.ended, list(self.heard), self.done, [list(row) for row in self.rows])

    def frame(self):
        return (self.at, list(self.numbers))

    def pass_asks(self):
        while is_ask(self.lines[self.at]):
            self.go_on(self.lines[self.at])

    def ending(self, line):
        if line[0] == "end":
            return "end"
        if is_place(line):
            look = self.failed_look(line)
            if look is not None:
                return look
        return "spent" if self.done >= self.budget else None

    def failed_look(self, line):
        place = self.place(line)
        if place < 0:
            return "low"
        return None if place < len(self.row(line)) else "high"

    def do(self, line):
        name = gives(line)
        if name is not None:
            self.numbers[name] = self.result(line)
        elif line[0] == "put":
            row = self.row(line)
            row[self.place(line)] = self.numbers[line[4]]
        elif line[0] == "tell":
            self.heard.append(self.numbers[line[1]])

    def result(self, line):
        if line[0] == "set":
            return self.worth(line[2]) + line[3]
        if line[0] == "sum":
            return self.worth(line[2]) + self.worth(line[3])
        if line[0] == "len":
            return len(self.rows[line[2]])
        if line[0] == "take":
            return self.coming.pop(0) if self.coming else 0
        row = self.row(line)
        return row[self.place(line)]

    def go_on(self, line):
        self.at = ways(line)[self.which(line)]

    def which(self, line):
        if line[0] == "test":
            return 0 if self.worth(line[1]) - self.worth(line[2]) <= line[3] else 1
        if is_ask(line):
            return 0 if all([self.is_so(bound) for bound in line[1]]) else 1
        return 0

    def is_so(self, bound):
        return self.node_worth(bound[0]) - self.node_worth(bound[1]) <= bound[2]

    def node_worth(self, node):
        if node[0] == "name":
            return self.numbers[node[1]]
        return len(self.rows[node[1]]) if node[0] == "len" else 0

    def worth(self, name):
        return 0 if name is None else self.numbers[name]

    def row(self, line):
        return self.rows[place_of(line)[0]]

    def place(self, line):
        return self.worth(place_of(line)[1]) + place_of(line)[2]


def run(program, rows, taken, budget):
    walk = Walk(program, rows, taken, budget)
    while walk.ended is None:
        walk.step()
    return walk.told()

"""The tree by which a timing of the least price and its flow are found: the simplex way through a network.

All points hang on a root, each by a thread at first, later by rules. A rule
by which a point hangs is kept just; every other one has nothing going through
it, or all that may. So the tree tells both a timing and a flow. A rule is
wrong where it lacks something and could take more, or where it is more than
kept and has something going through it. It makes a ring with the ways up from
its two points: as much as can be goes round that ring, and what then can take
no more leaves the tree, for the wrong rule to hang there. Once none is wrong,
all rules with a weight cost what goes through them times what they lack, and
nothing goes through those that are more than kept: the flow is worth the price.
"""

from cuetimer.rules import must_be_kept

# So many rules are looked at, and the worst of them taken: to look at all each time would take long.
STRIDE = 50


class Tree:
    def __init__(self, times, rules):
        root = len(times)
        total = sum([rule[3] for rule in rules if not must_be_kept(rule)])
        self.many = len(rules)
        # Nothing ever goes through a thread: it would come to the root, and no rule leads away from there.
        self.rules = list(rules) + [(point, root, -moment, None, ()) for point, moment in enumerate(times)]
        # What goes through the tree comes from rules with a weight that are full: the total and 1 are never reached.
        self.bounds = [total + 1 if must_be_kept(rule) else rule[3] for rule in self.rules]
        self.flow = [first_flow(rule) for rule in self.rules]
        self.times = list(times) + [0]
        self.over = [root] * root + [None]
        self.under = [[] for point in range(root)] + [list(range(root))]
        self.hooks = [self.many + point for point in range(root)] + [None]
        self.depths = [1] * root + [0]
        self.begin = 0

    def timing(self):
        return [moment - self.times[0] for moment in self.times[:-1]]

    def flow_of_rules(self):
        return self.flow[:self.many]

    def settle(self):
        number = self.wrong_rule()
        while number is not None:
            self.mend(number)
            number = self.wrong_rule()

    def wrong_rule(self):
        for stride in range(self.many // STRIDE + 1):
            end = min(self.begin + STRIDE, self.many)
            worst = self.worst_rule(self.begin, end)
            self.begin = end if end < self.many else 0
            if worst is not None:
                return worst
        return None

    def worst_rule(self, begin, end):
        worst = None
        most = 0
        for number in range(begin, end):
            lack = self.lack_of(number)
            if abs(lack) > most and self.is_wrong(number, lack):
                worst = number
                most = abs(lack)
        return worst

    def is_wrong(self, number, lack):
        return self.flow[number] < self.bounds[number] if lack > 0 else self.flow[number] > 0

    def lack_of(self, number):
        rule = self.rules[number]
        return rule[2] - self.times[rule[1]] + self.times[rule[0]]

    def mend(self, number):
        # The way round goes from the top down to the tail, through the wrong rule to the head, and up again.
        rule = self.rules[number]
        more = self.lack_of(number) > 0
        tail = rule[0] if more else rule[1]
        head = rule[1] if more else rule[0]
        top = self.meeting(tail, head)
        down = [self.step_down(point) for point in self.way(tail, top)]
        up = [self.step_up(point) for point in self.way(head, top)]
        amount = self.bounds[number]
        leaving = None
        # Of several that let no more by, the last one on the way round from the top leaves: so no tree comes twice.
        for step in down:
            if self.room(step) < amount:
                amount = self.room(step)
                leaving = (step[0], tail)
        for step in up:
            if self.room(step) <= amount:
                amount = self.room(step)
                leaving = (step[0], head)
        for step in [(None, number, more)] + down + up:
            self.flow[step[1]] += amount if step[2] else -amount
        if leaving is not None:
            self.hang(leaving[0], leaving[1], number)

    def meeting(self, one, other):
        while one != other:
            if self.depths[one] >= self.depths[other]:
                one = self.over[one]
            else:
                other = self.over[other]
        return one

    def way(self, point, top):
        points = []
        while point != top:
            points.append(point)
            point = self.over[point]
        return points

    def step_down(self, point):
        # A step is a point, the rule by which it hangs, and whether the way goes as the rule does: from low to high.
        return (point, self.hooks[point], self.rules[self.hooks[point]][1] == point)

    def step_up(self, point):
        return (point, self.hooks[point], self.rules[self.hooks[point]][0] == point)

    def room(self, step):
        number = step[1]
        return self.bounds[number] - self.flow[number] if step[2] else self.flow[number]

    def hang(self, leaving, inner, number):
        # The inner point is the one of the rule's two that hangs under the leaving one: it now comes out on top there.
        rule = self.rules[number]
        lack = self.lack_of(number)
        points = self.way(inner, self.over[leaving])
        hooks = [number] + [self.hooks[point] for point in points]
        over = [rule[1] if rule[0] == inner else rule[0]] + points
        for place, point in enumerate(points):
            self.under[self.over[point]].remove(point)
            self.under[over[place]].append(point)
            self.over[point] = over[place]
            self.hooks[point] = hooks[place]
        self.shift(inner, lack if rule[1] == inner else -lack)

    def shift(self, point, lack):
        points = [point]
        while points:
            point = points.pop()
            self.times[point] += lack
            self.depths[point] = self.depths[self.over[point]] + 1
            points.extend(self.under[point])


def first_flow(rule):
    # No timing keeps a rule from a point to itself that lacks something, so it takes all from the first.
    return rule[3] if rule[0] == rule[1] and rule[2] > 0 else 0

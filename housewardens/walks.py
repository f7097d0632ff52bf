"""The fewest people who make a run: walks that make it, and as many steps that are apart."""

from housewardens.goings import do_make, led_to, steps_of
from housewardens.kinds import are_integers, do_ascend, is_tuple_of


class Going:
    """The steps of a run that is not empty, and how many people have each of them on their walks."""

    def __init__(self, ward, run):
        self.first = [(0, standing) for standing in ward.book.first]
        self.length = len(run)
        self.steps = {step: (step[0] + 1, led_to(ward, step)) for step in steps_of(ward, run)}
        self.leaving = {}
        self.coming = {}
        for step, target in self.steps.items():
            self.leaving.setdefault(step[:2], []).append(step)
            self.coming.setdefault(target, []).append(step)
        self.many = {step: 1 for step in self.steps}
        self.begin()
        while self.spare_one():
            pass

    def sum_of(self, steps):
        """How many people have some steps that leave, or come to, one place."""
        return sum([self.many[step] for step in steps])

    def begin(self):
        """Lets people enough come to each place, then as many leave it as come."""
        places = sorted(self.leaving)
        for place in places[::-1]:
            coming = self.coming.get(place, [])
            lack = self.sum_of(self.leaving[place]) - self.sum_of(coming)
            if coming and lack > 0:
                self.many[coming[0]] += lack
        for place in places:
            coming = self.coming.get(place, [])
            spare = self.sum_of(coming) - self.sum_of(self.leaving[place])
            if coming and spare > 0:
                self.many[self.leaving[place][0]] += spare

    def ways_to_spare(self):
        """For each place that is reached from the first ones how: the place ahead, a step, and what to add to it.

        A way goes on by a step that two or more people have, which one less has then, and back by any step, which
        one more has then. One person less makes the run if such a way leads to the end.
        """
        found = {place: None for place in self.first}
        places = list(self.first)
        at = 0
        while at < len(places):
            place = places[at]
            rows = [(self.steps[step], step, -1) for step in self.leaving.get(place, []) if self.many[step] > 1]
            rows += [(step[:2], step, 1) for step in self.coming.get(place, [])]
            for further, step, change in rows:
                if further not in found:
                    found[further] = (place, step, change)
                    places.append(further)
            at += 1
        return found

    def spare_one(self):
        """Lets one person less make the run; whether that can be."""
        ways = self.ways_to_spare()
        ends = [place for place in ways if place[0] == self.length]
        if not ends:
            return False
        way = ways[ends[0]]
        while way is not None:
            place, step, change = way
            self.many[step] += change
            way = ways[place]
        return True

    def people(self):
        """How many people make the run."""
        return sum([self.sum_of(self.leaving[place]) for place in self.first])

    def apart(self):
        """As many steps any two of which are apart: those that lead out of what is reached."""
        ways = self.ways_to_spare()
        return tuple(sorted([step for step, target in self.steps.items() if step[:2] in ways and target not in ways]))

    def walks(self):
        """The walks of the people, ascending."""
        left = {step: number for step, number in self.many.items()}
        found = []
        for _, standing in self.first:
            for _ in range(self.sum_of(self.leaving[0, standing])):
                found.append((standing, self.walk_from((0, standing), left)))
        return tuple(sorted(found))

    def walk_from(self, place, left):
        """The moves of one of those who are left, who is taken away."""
        moves = []
        while place in self.leaving:
            step = [step for step in self.leaving[place] if left[step] > 0][0]
            left[step] -= 1
            moves.append(step[2])
            place = self.steps[step]
        return tuple(moves)


def fewest_people(ward, run):
    """The least number of people who make a run."""
    return Going(ward, run).people() if run else len(ward.book.first)


def people_paper(ward, run):
    """A paper for the least number of people: walks that make the run, and as many steps that are apart."""
    if not run:
        return "people", tuple([(standing, ()) for standing in ward.book.first]), steps_of(ward, run)
    going = Going(ward, run)
    return "people", going.walks(), going.apart()


def people_holds(ward, run, thing):
    """Whether any value is a paper for the least number of people."""
    if not is_tuple_of(thing, 3) or thing[0] != "people":
        return False
    walks, apart = thing[1:]
    if not do_make(ward, run, walks) or not do_ascend(walks):
        return False
    return is_tuple_of(apart, len(walks)) and are_all_apart(ward, run, apart)


def are_all_apart(ward, run, thing):
    """Whether any tuple is an ascending one of steps of the run any two of which are apart."""
    steps = steps_of(ward, run)
    known = set(steps)
    for step in thing:
        if not are_integers(step) or step not in known:
            return False
    return do_ascend(thing) and most_on_a_walk(ward, steps, thing) <= 1


def most_on_a_walk(ward, steps, chosen):
    """How many of some chosen steps one walk has at the most."""
    wanted = set(chosen)
    many = {}
    for step in steps:
        target = (step[0] + 1, led_to(ward, step))
        so_far = many.get(step[:2], 0) + (1 if step in wanted else 0)
        many[target] = max(so_far, many.get(target, 0))
    return max(many.values())


def can_make(ward, run, many):
    """Whether just so many people make a run."""
    return fewest_people(ward, run) <= many

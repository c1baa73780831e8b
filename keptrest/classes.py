"""The coarsest parting of points into classes, whose points lead to the same classes."""


class Classes:
    """Parts points into classes by keys, and then as long as two points of a class lead to unlike classes.

    targets has the points to which each point leads, equally many for points of one class. Only the smaller half of
    a class that was parted has to be looked at again.
    """

    def __init__(self, keys, targets):
        numbers = {}
        for key in keys:
            numbers.setdefault(key, len(numbers))
        self.members = [{} for _ in numbers]
        self.of_point = [numbers[key] for key in keys]
        for point, number in enumerate(self.of_point):
            self.members[number][point] = True
        self.sources = []
        for k in range(max([len(others) for others in targets])):
            self.sources.append(sources_at(k, targets))
        self.waiting = list(range(len(self.members)))
        self.waits = [True] * len(self.members)

    def part_all(self):
        """Goes on until no class can be parted."""
        while self.waiting:
            number = self.waiting.pop()
            self.waits[number] = False
            goals = list(self.members[number])
            for sources in self.sources:
                self.part_by(sources, goals)

    def part_by(self, sources, goals):
        """Parts all classes of which some points lead to goals and others do not."""
        hits = {}
        for goal in goals:
            for point in sources[goal]:
                hits.setdefault(self.of_point[point], []).append(point)
        for number, points in hits.items():
            if len(points) < len(self.members[number]):
                self.part(number, points)

    def part(self, number, points):
        """Takes points out of a class; they become a class of their own."""
        new = len(self.members)
        self.members.append({point: True for point in points})
        for point in points:
            del self.members[number][point]
            self.of_point[point] = new
        smaller = new if len(points) <= len(self.members[number]) else number
        self.waits.append(False)
        self.wait_for(new if self.waits[number] else smaller)

    def wait_for(self, number):
        self.waits[number] = True
        self.waiting.append(number)


def sources_at(k, targets):
    """For each point the points whose target number k it is."""
    sources = [[] for _ in targets]
    for point, others in enumerate(targets):
        if k < len(others):
            sources[others[k]].append(point)
    return sources


def classes_of(keys, targets):
    """The classes, as ascending lists of points, by their first points."""
    classes = Classes(keys, targets)
    classes.part_all()
    return sorted([sorted(list(points)) for points in classes.members], key=lambda points: points[0])

"""A house: modules kept over many calls, with all their editions."""

from sealedkinds.apart import sight_fault, states_by, value_fault
from sealedkinds.errors import Faulty, InUse, NoEdition, NoModule, Ring
from sealedkinds.known import Known
from sealedkinds.modules import face_of
from sealedkinds.running import LIMIT, ran, used


class Standing:
    """What stands behind some deed; once made it isn't changed.

    By names: modules, those that are there; shelves, lists of all editions, also of what isn't there now; found, what
    states tells, and ills, the faults or None, of those that are there. Looks has, by (M, x), of each definition that
    was ever looked at (its term, the kinds known then of what it names, what was found).
    """

    def __init__(self, modules, shelves, found, ills, looks):
        self.modules = modules
        self.shelves = shelves
        self.found = found
        self.ills = ills
        self.looks = looks


class Looking:
    """Looks at definitions where they aren't as when they were last looked at; looked has those that it looked at."""

    def __init__(self, looks):
        self.looks = {what: looks[what] for what in looks}
        self.looked = []

    def state(self, what, looked):
        """The word and the what of that definition."""
        kinds = [what.kind for _, what in looked.spots if isinstance(what, Known)]
        last = self.looks.get(what)
        if last is None or last[0] != looked.term or last[1] != kinds:
            last = (looked.term, kinds, looked.state())
            self.looks[what] = last
            self.looked.append(what)
        return last[2]


class House:
    """Modules that are there, one of each name, and what was done to them."""

    def __init__(self):
        self.now = Standing({}, {}, {}, {}, {})
        self.past = []

    def put(self, module):
        """The module is there from now on: (edition, looked, broken, mended); NoModule(M), Ring(M)."""
        standing, told = behind_put(self.now, module)
        self.past.append(self.now)
        self.now = standing
        return told

    def would(self, module):
        """What put would tell, refused likewise; nothing is put."""
        return behind_put(self.now, module)[1]

    def drop(self, name):
        """The module is there no more; NoModule(name), InUse(M)."""
        users = self.users_of(name)
        if users:
            raise InUse(users[0])
        now = self.now
        without = [{other: row[other] for other in row if other != name} for row in (now.modules, now.found, now.ills)]
        self.past.append(now)
        self.now = Standing(without[0], now.shelves, without[1], without[2], now.looks)

    def undo(self):
        """Takes back the last put or drop that stands; whether there was one."""
        if not self.past:
            return False
        self.now = self.past.pop()
        return True

    def names(self):
        """The rising list of the names."""
        return sorted(self.now.modules)

    def module(self, name):
        """The module of that name; NoModule(name)."""
        return self.there(self.now.modules, name)

    def states(self, name):
        """What states tells of the module; NoModule(name)."""
        return list(self.there(self.now.found, name))

    def fault(self, name):
        """The fault of the module; None; NoModule(name)."""
        return self.there(self.now.ills, name)

    def there(self, row, name):
        """What the row has for a module that is there; NoModule(name)."""
        if name not in self.now.modules:
            raise NoModule(name)
        return row[name]

    def editions(self, name):
        """How many editions there are of the module; NoModule(name)."""
        return len(self.there(self.now.shelves, name))

    def as_of(self, name, edition):
        """That edition of the module; NoModule(name), NoEdition(edition)."""
        shelf = self.there(self.now.shelves, name)
        if edition < 0 or edition >= len(shelf):
            raise NoEdition(edition)
        return shelf[edition]

    def users_of(self, name):
        """The rising list of the names of those that use the module; NoModule(name)."""
        self.module(name)
        return users_among(self.now.modules, name)

    def whole(self):
        """The list of all modules, each behind those that it uses; of several that may be next the least name first."""
        modules = self.now.modules
        found = []
        left = sorted(modules)
        while left:
            name = [x for x in left if not any([use in left for use in modules[x][1]])][0]
            left.remove(name)
            found.append(modules[name])
        return found

    def sound_whole(self):
        """The whole; Faulty((M, fault)) of the first that has one."""
        modules = self.whole()
        for module in modules:
            fault = self.now.ills[module[0]]
            if fault is not None:
                raise Faulty((module[0], fault))
        return modules

    def ran(self, name, x, *, most=LIMIT):
        """The worth and the steps of a definition; Faulty((M, fault)), then as ran."""
        return ran(self.sound_whole(), name, x, most=most)

    def used(self, term, *, most=LIMIT):
        """The number and the steps of a user; Faulty((M, fault)), then as used."""
        return used(self.sound_whole(), term, most=most)

    def like(self):
        """A house of one's own, the same, with all that can be undone."""
        house = House()
        house.now = self.now
        house.past = list(self.past)
        return house

    def __len__(self):
        return len(self.now.modules)

    def __eq__(self, other):
        if not isinstance(other, House):
            return False
        return self.now.modules == other.now.modules


def behind_put(now, module):
    """What stands behind the put of the module, and what put tells; NoModule(M), Ring(M)."""
    name = module[0]
    check_uses(now.modules, module)
    modules = {**now.modules, name: module}
    shelf = now.shelves.get(name, [])
    found = dict(now.found)
    ills = dict(now.ills)
    looking = Looking(now.looks)
    broken = []
    mended = []
    for other in sorted([name] + users_among(modules, name)):
        found[other], ills[other] = look_at(modules[other], modules, looking)
        if other != name and ills[other] is not None and now.ills[other] is None:
            broken.append((other, ills[other]))
        if other != name and ills[other] is None and now.ills[other] is not None:
            mended.append(other)
    standing = Standing(modules, {**now.shelves, name: shelf + [module]}, found, ills, looking.looks)
    return standing, (len(shelf), sorted(looking.looked), broken, mended)


def check_uses(modules, module):
    """Whether all its uses are there, and none of them uses it; NoModule(M), Ring(M)."""
    for use in module[1]:
        if use not in modules:
            raise NoModule(use)
    for use in module[1]:
        if module[0] in used_by(modules, use):
            raise Ring(use)


def used_by(modules, name):
    """The list of the names of those that the module uses, in one step or more."""
    found = list(modules[name][1])
    at = 0
    while at < len(found):
        found.extend([use for use in modules[found[at]][1] if use not in found])
        at += 1
    return found


def users_among(modules, name):
    """The rising list of the names of those that use that one."""
    return [other for other in sorted(modules) if name in modules[other][1]]


def look_at(module, modules, looking):
    """The states and the fault of a module, by the faces of those that are there."""
    name = module[0]
    faces = [face_of(modules[use]) for use in module[1]]
    found = states_by(module, faces, lambda x, looked: looking.state((name, x), looked))
    return found, fault_by(module, faces, found)


def fault_by(module, faces, states):
    """The fault of a module, by what states tells of it; None."""
    fault = sight_fault(module, faces)
    if fault is not None:
        return fault
    kinds = {}
    for x, word, what in states:
        if word != "kind":
            return ("def", x)
        kinds[x] = what
    return value_fault(module, kinds)

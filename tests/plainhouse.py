"""A slow, plain house, which goes through all its deeds anew for each question, to compare with."""

from sealedkinds.apart import fault_of, states
from sealedkinds.modules import face_of
from sealedkinds.running import ran, used
from sealedkinds.terms import named_in


class Refused(Exception):
    """(class's name, what)."""


class PlainHouse:
    def __init__(self, deeds=()):
        self.deeds = list(deeds)
        self.kept = None

    def gone_through(self, deeds):
        """(modules, shelves, last looks, what each deed looked at) behind these deeds."""
        if self.kept is None or self.kept[0] != deeds:
            self.kept = (list(deeds), self.gone_through_anew(deeds))
        return self.kept[1]

    def gone_through_anew(self, deeds):
        modules, shelves, last, looked = {}, {}, {}, []
        for word, thing in deeds:
            looked.append([])
            if word == "drop":
                del modules[thing]
                continue
            modules[thing[0]] = thing
            shelves.setdefault(thing[0], []).append(thing)
            for module in modules.values():
                faces = [face_of(modules[use]) for use in module[1]]
                known = {(face[0], x): kind for face in faces for x, kind in face[2]}
                for (x, term), (_, state, what) in zip(module[4], states(module, faces)):
                    if state in ("kind", "clash"):
                        now = (term, {name: known[name] for _, name in named_in(term) if name != x})
                        if last.get((module[0], x)) != now:
                            last[(module[0], x)] = now
                            looked[-1].append((module[0], x))
                    if state == "kind":
                        known[x] = what
        return modules, shelves, last, looked

    def modules(self):
        return self.gone_through(self.deeds)[0]

    def faults(self, modules):
        return {name: fault_of(module, [face_of(modules[use]) for use in module[1]]) for name, module in modules.items()}

    def uses(self, modules, name):
        """All that it uses, in one step or more."""
        found = set()
        for use in modules[name][1]:
            found |= {use} | self.uses(modules, use)
        return found

    def would(self, module):
        modules, shelves, _, _ = self.gone_through(self.deeds)
        many = len(shelves.get(module[0], []))
        for use in module[1]:
            if use not in modules:
                raise Refused("NoModule", use)
        for use in module[1]:
            if module[0] in self.uses(modules, use):
                raise Refused("Ring", use)
        before = self.faults(modules)
        modules, _, _, looked = self.gone_through(self.deeds + [("put", module)])
        behind = self.faults(modules)
        others = sorted(name for name in modules if name != module[0])
        broken = [(name, behind[name]) for name in others if before[name] is None and behind[name] is not None]
        mended = [name for name in others if before[name] is not None and behind[name] is None]
        return (many, sorted(looked[-1]), broken, mended)

    def put(self, module):
        told = self.would(module)
        self.deeds.append(("put", module))
        return told

    def drop(self, name):
        users = self.users_of(name)
        if users:
            raise Refused("InUse", users[0])
        self.deeds.append(("drop", name))

    def undo(self):
        if not self.deeds:
            return False
        self.deeds.pop()
        return True

    def names(self):
        return sorted(self.modules())

    def module(self, name):
        if name not in self.modules():
            raise Refused("NoModule", name)
        return self.modules()[name]

    def faces(self, name):
        return [face_of(self.modules()[use]) for use in self.module(name)[1]]

    def states(self, name):
        return states(self.module(name), self.faces(name))

    def fault(self, name):
        return fault_of(self.module(name), self.faces(name))

    def editions(self, name):
        self.module(name)
        return len([1 for word, thing in self.deeds if word == "put" and thing[0] == name])

    def as_of(self, name, edition):
        if edition not in range(self.editions(name)):
            raise Refused("NoEdition", edition)
        return [thing for word, thing in self.deeds if word == "put" and thing[0] == name][edition]

    def users_of(self, name):
        self.module(name)
        return sorted(other for other, module in self.modules().items() if name in module[1])

    def whole(self):
        modules = self.modules()
        found = []
        while len(found) < len(modules):
            names = [module[0] for module in found]
            name = min(x for x, module in modules.items() if x not in names and set(module[1]) <= set(names))
            found.append(modules[name])
        return found

    def sound(self):
        for module in self.whole():
            if self.fault(module[0]) is not None:
                raise Refused("Faulty", (module[0], self.fault(module[0])))
        return self.whole()

    def ran(self, name, x, most=2000):
        return ran(self.sound(), name, x, most=most)

    def used(self, term, most=2000):
        return used(self.sound(), term, most=most)

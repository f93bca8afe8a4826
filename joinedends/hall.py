"""The hall: named theories over one signature that import each other."""

from joinedends.errors import Cyclic, Duplicate, InvalidName, NotFound
from joinedends.kept import KeptAnswers
from joinedends.notation import write_equation
from joinedends.signature import is_name
from joinedends.standing import Standing, check_equation


class Room:
    """What a hall holds of one theory: its own equations, its imports and its kept answers."""

    def __init__(self):
        self.standing = Standing()
        self.others = []
        self.answers = KeptAnswers()


class Hall:
    """Theories in the order in which they were created. A source is a tuple (name, number)."""

    def __init__(self, signature):
        self._signature = signature.copy()
        self._rooms = {}

    def create(self, name):
        """Add a theory without equations."""
        if not is_name(name):
            raise InvalidName()
        if name in self._rooms:
            raise Duplicate()
        self._rooms[name] = Room()

    def theories(self):
        """Return the list of the names of the theories."""
        return list(self._rooms)

    def include(self, name, other):
        """Let a theory import another one."""
        room = self._room(name)
        self._room(other)
        if name in self.reached(other):
            raise Cyclic()
        if other in room.others:
            raise Duplicate()
        before = {user: self.sources(user) for user in self._users(name)}
        room.others.append(other)
        for user in before:
            for source in self.sources(user):
                if source not in before[user]:
                    left, right = self.equation(*source)
                    self._rooms[user].answers.forget_added(left, right)

    def imports(self, name):
        """Return the list of the imported names, in the order in which the imports were made."""
        return list(self._room(name).others)

    def reached(self, name):
        """Return the list of the names of the theories that a theory reaches."""
        self._room(name)
        found = {name: True}
        waiting = [name]
        while waiting:
            room = self._rooms[waiting.pop()]
            for other in room.others:
                if other not in found:
                    found[other] = True
                    waiting.append(other)
        return [theory for theory in self._rooms if theory in found]

    def add(self, name, left, right):
        """Add the equation to a theory and return its number."""
        room = self._room(name)
        check_equation(self._signature, left, right)
        for user in self._users(name):
            self._rooms[user].answers.forget_added(left, right)
        return room.standing.put(left, right)

    def drop(self, name, number):
        """Drop the equation of a theory with this number and return it."""
        equation = self._room(name).standing.drop(number)
        for user in self._users(name):
            self._rooms[user].answers.forget_dropped((name, number))
        return equation

    def equation(self, name, number):
        """Return the standing equation of a theory with this number."""
        return self._room(name).standing.equation(number)

    def given(self, name):
        """Return the list of the standing equations of the theories that a theory reaches."""
        return [self.equation(*source) for source in self.sources(name)]

    def sources(self, name):
        """Return the list of the sources of the given equations."""
        return [(theory, number) for theory in self.reached(name)
                for number in self._rooms[theory].standing.numbers()]

    def ask(self, name, left, right, *, steps=30, max_size=2, max_models=500):
        """Return the kept answer of a theory to the question, or answer it within the limits."""
        room = self._room(name)
        check_equation(self._signature, left, right)
        equations = {source: self.equation(*source) for source in self.sources(name)}
        return room.answers.ask(self._signature, equations, (left, right), (steps, max_size, max_models))

    def kept(self, name):
        """Return the list of the questions whose answers a theory keeps."""
        return self._room(name).answers.questions()

    def rests_on(self, name, left, right):
        """Return the list of the sources on which a kept answer rests, in their order."""
        return self._room(name).answers.rests_on(left, right)

    def written(self):
        """Return the list of the lines from which the hall can be read."""
        lines = [self._operation_line(operation) for operation in self._signature]
        lines.extend([f"theory {name}" for name in self._rooms])
        for name, room in self._rooms.items():
            lines.extend([f"import {name} {other}" for other in room.others])
        for name, room in self._rooms.items():
            for number in room.standing.numbers():
                left, right = room.standing.equation(number)
                lines.append(f"equation {name} {number} {write_equation(left, right)}")
        lines.extend([f"next {name} {room.standing.next_number()}" for name, room in self._rooms.items()])
        return lines

    def go_on(self, name, number):
        """Let the next equation of a theory get this number, which is greater than all others."""
        self._room(name).standing.go_on(number)

    def _room(self, name):
        if name not in self._rooms:
            raise NotFound()
        return self._rooms[name]

    def _users(self, name):
        """Return the list of the names of the theories that reach a theory."""
        return [theory for theory in self._rooms if name in self.reached(theory)]

    def _operation_line(self, operation):
        end = " commutative" if self._signature.is_commutative(operation) else ""
        return f"operation {operation} {self._signature.arity(operation)}{end}"

"""A desk: it runs a system, halts it at stops, takes calls back, and is asked about answers."""

from wholemoment.base.wholes import need_number
from wholemoment.errors import InvalidEvent, InvalidOperation, NothingToUndo, Refused, TooMany, UnknownName
from wholemoment.house.stops import does_meet, is_stop_of
from wholemoment.run.sound import times_of_answer
from wholemoment.run.systems import System, is_event
from wholemoment.run.times import states_of
from wholemoment.store.deeds import History
from wholemoment.store.questions import page_of

MOST_CALLS = 200
MOST_STOPS = 20


class Desk:
    """A system that is run event by event, with stops and calls. It changes."""

    def __init__(self, setup, *, without=None):
        self.system = System(setup, without=without)
        self.history = History(())
        self.stops = ()
        self.calls = ()
        # The systems behind the first events, and how many events and which stops there were ahead of each call.
        self._systems = (self.system,)
        self._before = ()

    def __len__(self):
        return len(self.calls)

    def __contains__(self, value):
        return is_stop_of(self.system.setup, value) and value in self.stops

    def __eq__(self, other):
        return (isinstance(other, Desk) and self.system == other.system and self.stops == other.stops
                and self.calls == other.calls)

    def __str__(self):
        return f"desk of {len(self.system)} events, {len(self.stops)} stops, {len(self.calls)} calls"

    def do(self, events):
        """Does some events up to the first one at which a stop meets: how many were done, and which stop it is."""
        if not isinstance(events, tuple) or not all([is_event(self.system.setup, event) for event in events]):
            raise InvalidEvent("events are a tuple of events of the setup")
        row, stop = self._halted(events)
        self._need_room_for_call()
        if row:
            self._note_call(("do", events[:len(row)]))
            self._set_systems(self._systems + tuple(row))
        return (len(row), stop)

    def stop(self, stop):
        """Puts a stop behind the others; returns how many there are."""
        self._need_stop(stop)
        if stop in self.stops:
            raise Refused(("twice",))
        if len(self.stops) >= MOST_STOPS:
            raise TooMany(MOST_STOPS)
        self._need_room_for_call()
        self._note_call(("stop", stop))
        self.stops = self.stops + (stop,)
        return len(self.stops)

    def unstop(self, stop):
        """Takes a stop away; returns how many there are."""
        self._need_stop(stop)
        if stop not in self.stops:
            raise UnknownName(stop)
        self._need_room_for_call()
        self._note_call(("unstop", stop))
        self.stops = tuple([other for other in self.stops if other != stop])
        return len(self.stops)

    def undo(self, *, calls=1):
        """Takes the last calls back, with all that they did; returns how many stand."""
        need_number(calls, 1)
        if calls > len(self.calls):
            raise NothingToUndo(calls)
        left = len(self.calls) - calls
        events, self.stops = self._before[left]
        self.calls = self.calls[:left]
        self._before = self._before[:left]
        self._set_systems(self._systems[:events + 1])
        return left

    def behind(self, many):
        """The system behind the first so many events."""
        need_number(many, 0, len(self.system))
        return self._systems[many]

    def first(self, stop):
        """The index of the first event at which a stop met, None if it never did."""
        self._need_stop(stop)
        for index, (early, late) in enumerate(zip(self._systems, self._systems[1:])):
            if does_meet(early, late, stop):
                return index
        return None

    def page(self, index):
        """The page of an answer, as it stood at the first time at which its cache shows an instant that it tells."""
        need_number(index, 0, len(self.system.answers) - 1)
        answer = self.system.answers[index]
        times = times_of_answer(self.system, answer)
        # Without a rule there can be no such time.
        time = times[0] if times else answer[0]
        return page_of(answer[5], states_of(self.system.deeds)[self.system.moments[time]])

    def moments_of(self, index):
        """The stretches of moments of the history at which the page of an answer stands."""
        return self.history.moments_with(self.page(index))

    def twin(self):
        """An equal desk that changes by itself."""
        other = Desk(self.system.setup, without=self.system.without)
        other.stops = self.stops
        other.calls = self.calls
        other._before = self._before
        other._set_systems(self._systems)
        return other

    def _need_stop(self, stop):
        if not is_stop_of(self.system.setup, stop):
            raise InvalidOperation("a stop has one of the told forms, with readers and machines of the setup")

    def _need_room_for_call(self):
        if len(self.calls) >= MOST_CALLS:
            raise TooMany(MOST_CALLS)

    def _halted(self, events):
        """The systems behind each event up to a halt, and the index of the stop that meets there, or None."""
        row = []
        early = self.system
        for event in events:
            late = early.done(event)
            row.append(late)
            met = [index for index, stop in enumerate(self.stops) if does_meet(early, late, stop)]
            if met:
                return (row, met[0])
            early = late
        return (row, None)

    def _note_call(self, call):
        self._before = self._before + ((len(self.system), self.stops),)
        self.calls = self.calls + (call,)

    def _set_systems(self, systems):
        self._systems = systems
        self.system = systems[-1]
        self.history = History(self.system.deeds)

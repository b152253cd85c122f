"""Crowds: all scenes of a world in which it may be behind a row of events."""

from calledroom.scenes import begun
from calledroom.steps import may_step, step_of
from calledroom.stuckness import is_done


class Scenery:
    """Scenes of one world by number, each stepped from but once however many crowds have it."""

    def __init__(self, world):
        self.world = world
        self.scenes = []
        self.numbers = {}
        self.leads = {}

    def number_of(self, scene):
        """The scene's number, a new one where it had none."""
        if scene not in self.numbers:
            self.numbers[scene] = len(self.scenes)
            self.scenes.append(scene)
        return self.numbers[scene]

    def steps_from(self, number):
        """For each step from a scene its event, or None, and the number of the scene to which it leads."""
        if number not in self.leads:
            scene = self.scenes[number]
            steps = [step_of(self.world, scene, hand) for hand in may_step(self.world, scene)]
            self.leads[number] = [(event, self.number_of(reached)) for reached, event in steps]
        return self.leads[number]

    def closed(self, numbers, most):
        """The least crowd that has these scenes, by rising numbers; None where it has more than most, if most isn't."""
        seen = set(numbers)
        due = sorted(seen)
        while due:
            if most is not None and len(seen) > most:
                return None
            number = due.pop()
            for event, goal in self.steps_from(number):
                if event is None and goal not in seen:
                    seen.add(goal)
                    due.append(goal)
        return tuple(sorted(seen))

    def first(self, most):
        """The crowd of begun."""
        return self.closed([self.number_of(begun(self.world))], most)

    def behind(self, crowd, event, most):
        """The crowd behind an event; () where no step has it."""
        goals = [goal for number in crowd for label, goal in self.steps_from(number) if label == event]
        return self.closed(goals, most)

    def marks(self, crowd):
        """The events of a crowd, whether one of its scenes is done, and whether one is stuck."""
        events = [event for number in crowd for event, goal in self.steps_from(number) if event is not None]
        # Where no hand may step all are done, or it is stuck.
        ends = [self.scenes[number] for number in crowd if not self.steps_from(number)]
        done = [is_done(self.world, scene) for scene in ends]
        return (tuple(sorted(set(events))), any(done), not all(done))

    def shown(self, crowd):
        """The rising tuple of a crowd's scenes themselves."""
        return tuple(sorted([self.scenes[number] for number in crowd]))


def crowd_of(world, scenes):
    """The least crowd that has these scenes."""
    scenery = Scenery(world)
    return scenery.shown(scenery.closed([scenery.number_of(scene) for scene in scenes], None))


def marks_of(world, crowd):
    """The events of a crowd, whether one of its scenes is done, and whether one is stuck."""
    scenery = Scenery(world)
    return scenery.marks([scenery.number_of(scene) for scene in crowd])

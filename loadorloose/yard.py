"""Yards: frames that are kept by names, and changed (point 28)."""

from loadorloose.carrying import carry
from loadorloose.errors import NoSuchFrame
from loadorloose.factors import greatest
from loadorloose.holding import hold, stiffen


class Yard:
    """Keeps frames by names, changes them, and answers for each one as it is at that moment.

    A frame is never modified: a change puts another one in its place.
    """

    def __init__(self):
        self.kept = {}

    def put(self, name, frame):
        """Keep a frame, in the place of the one with this name, if there is one."""
        self.kept[name] = frame

    def frame(self, name):
        """The frame with this name; NoSuchFrame if there is none."""
        if name not in self.kept:
            raise NoSuchFrame(name)
        return self.kept[name]

    def names(self):
        """The ascending list of the names."""
        return sorted(self.kept)

    def add_joint(self, name, point):
        """Add a joint at this place."""
        points, members, pins = self.frame(name)
        self.put(name, (points + (point,), members, pins))

    def add_member(self, name, member):
        """Add a member."""
        points, members, pins = self.frame(name)
        self.put(name, (points, members + (member,), pins))

    def drop_member(self, name, k):
        """Take the member with the position k away."""
        points, members, pins = self.frame(name)
        self.put(name, (points, members[:k] + members[k + 1:], pins))

    def move(self, name, joint, point):
        """Give a joint another place."""
        points, members, pins = self.frame(name)
        self.put(name, (points[:joint] + (point,) + points[joint + 1:], members, pins))

    def pin(self, name, joint):
        """Pin a joint that is not pinned."""
        points, members, pins = self.frame(name)
        self.put(name, (points, members, tuple(sorted(pins + (joint,)))))

    def free(self, name, joint):
        """Free a joint that is pinned."""
        points, members, pins = self.frame(name)
        self.put(name, (points, members, tuple([pin for pin in pins if pin != joint])))

    def limit(self, name, k, pull, push):
        """Give the member with the position k other limits."""
        points, members, pins = self.frame(name)
        member = members[k][:2] + (pull, push)
        self.put(name, (points, members[:k] + (member,) + members[k + 1:], pins))

    def carry(self, name, load):
        """What `carry` tells of the frame and a load."""
        return carry(self.frame(name), load)

    def greatest(self, name, load):
        """What `greatest` tells of the frame and a load."""
        return greatest(self.frame(name), load)

    def hold(self, name):
        """What `hold` tells of the frame."""
        return hold(self.frame(name))

    def stiffen(self, name):
        """What `stiffen` tells of the frame."""
        return stiffen(self.frame(name))

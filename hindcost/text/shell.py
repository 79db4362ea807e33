"""A shell that runs commands, each a line of words."""

from hindcost.errors import InvalidCommand
from hindcost.text.commands import hold_nothing, run_command


class Shell:
    """A system, an offline system, a policy and a service, none of them at first, and the commands that were run."""

    def __init__(self):
        self._held = hold_nothing()
        self._log = []

    def __len__(self):
        return len(self._log)

    def run(self, line):
        """Run the command and return its result as a string."""
        result = run_command(self._held, line)
        self._log.append(line)
        return result

    def run_all(self, lines):
        """Run the commands of the tuple, up to the first error, and return the tuple of their results."""
        if not isinstance(lines, tuple):
            raise InvalidCommand("not a tuple of commands")
        return tuple([self.run(line) for line in lines])

    def log(self):
        """Return the commands that were run without an error."""
        return tuple(self._log)

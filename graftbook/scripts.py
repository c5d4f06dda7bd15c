"""Scripts: deeds that are done to a plot one behind the other."""

from graftbook.deeds import back_deed, is_deed, need_deeds, plot_behind, reason_against
from graftbook.errors import InvalidScript, Refusal
from graftbook.plots import need_plot


def is_script(value):
    """Whether a value is a tuple of deeds."""
    return isinstance(value, tuple) and all(is_deed(deed) for deed in value)


def need_scripts(*scripts):
    """Raise InvalidScript with the first member of several scripts, from the left, that is no deed."""
    for script in scripts:
        if not isinstance(script, (list, tuple)):
            raise InvalidScript(script)
        need_deeds(script)


def plots_by(t, script):
    """The plots on the way of a script, t first, as far as its deeds can be run; checks nothing."""
    plots = [t]
    for deed in script:
        if reason_against(plots[-1], deed) is not None:
            break
        plots.append(plot_behind(plots[-1], deed))
    return plots


def plot_by(t, script):
    """The plot behind a script, None if it cannot be run; checks nothing."""
    plots = plots_by(t, script)
    return plots[-1] if len(plots) > len(script) else None


def need_runnable(t, *scripts):
    """Raise the errors of running each of several scripts at a plot, those of the left ones first."""
    need_plot(t)
    need_scripts(*scripts)
    for script in scripts:
        plots = plots_by(t, script)
        if len(plots) <= len(script):
            deed = script[len(plots) - 1]
            raise Refusal(deed, reason_against(plots[-1], deed))


def run(t, script):
    """The plot behind a script."""
    need_runnable(t, script)
    return plot_by(t, script)


def prefix_run(t, script):
    """The plot behind the deeds of a script ahead of the first that is refused, and their number."""
    need_plot(t)
    need_scripts(script)
    plots = plots_by(t, script)
    return (plots[-1], len(plots) - 1)


def back_script(t, script):
    """The script that leads back from the plot behind a script, the last deed undone first."""
    need_runnable(t, script)
    undoing = [back_deed(plot, deed) for plot, deed in zip(plots_by(t, script), script)]
    return tuple(reversed(undoing))


def touched(script):
    """The marks that the deeds of a script are done to, ascending, each once."""
    need_scripts(script)
    return tuple(sorted({deed[1] for deed in script}))

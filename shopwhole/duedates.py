"""Jobs for machines with due times: least lateness, and tables that show that it is least."""

from shopwhole.plain import is_count, is_integer, is_tuple_of

MOST_JOBS = 6
MOST_MACHINES = 3


def is_time(thing):
    """Whether a thing is a number of ticks."""
    return is_integer(thing) and thing >= 0


def is_one_job(thing, machines):
    """Whether a thing is (name, ticks, due)."""
    if not is_tuple_of(thing, 3) or not isinstance(thing[0], str) or not is_tuple_of(thing[1], machines):
        return False
    return is_time(thing[2]) and all([ticks is None or is_time(ticks) for ticks in thing[1]])


def are_jobs(thing, machines):
    """Whether a thing is jobs for so many machines."""
    if not is_count(machines, 1, MOST_MACHINES) or not isinstance(thing, tuple) or not 1 <= len(thing) <= MOST_JOBS:
        return False
    if not all([is_one_job(job, machines) for job in thing]):
        return False
    return len(set([job[0] for job in thing])) == len(thing)


def is_plan(jobs, machines, plan):
    """Whether a thing is a plan with each job there once where it can be made."""
    if not is_tuple_of(plan, machines) or not all([isinstance(names, tuple) for names in plan]):
        return False
    told = [name for names in plan for name in names]
    if not all([isinstance(name, str) for name in told]) or sorted(told) != sorted([job[0] for job in jobs]):
        return False
    ticks = {job[0]: job[1] for job in jobs}
    return all([ticks[name][machine] is not None for machine, names in enumerate(plan) for name in names])


def lateness_of(jobs, machines, plan):
    """The greatest lateness of a plan, None if not each job is there once where it can be made."""
    if not is_plan(jobs, machines, plan):
        return None
    told = {job[0]: job for job in jobs}
    out = []
    for machine, names in enumerate(plan):
        end = 0
        for name in names:
            end += told[name][1][machine]
            out.append(end - told[name][2])
    return max(out)


def by_due_times(jobs):
    """The list of jobs in the order of due times, then names."""
    return sorted(jobs, key=lambda job: (job[2], job[0]))


def state_after(state, job, machine):
    """The state that comes of one when a job is made by a machine."""
    loads, late = state
    busy = loads[machine] + job[1][machine]
    late = busy - job[2] if late is None else max(late, busy - job[2])
    return (*loads[:machine], busy, *loads[machine + 1:]), late


def machines_for(job):
    """The list of the machines that can make a job."""
    return [machine for machine, ticks in enumerate(job[1]) if ticks is not None]


def is_no_more(one, other):
    """Whether a state, with a lateness, is nowhere more than another one."""
    return one[1] <= other[1] and all([load <= more for load, more in zip(one[0], other[0])])


def least_states(found):
    """Of a dict of states, each to a plan, those in ascending order that no other one is nowhere more than."""
    out = {}
    for state in sorted(found):
        if not any([is_no_more(other, state) for other in out]):
            out[state] = found[state]
    return out


def with_job(plan, machine, name):
    """A plan with a job more, behind those of a machine."""
    return (*plan[:machine], (*plan[machine], name), *plan[machine + 1:])


def least_lateness(jobs, machines):
    """The least lateness, a plan that has it, and a table that shows it; None if some job can be made nowhere."""
    states = {(tuple([0] * machines), None): tuple([()] * machines)}
    table = [tuple(list(states))]
    for job in by_due_times(jobs):
        found = {}
        for state, plan in states.items():
            for machine in machines_for(job):
                found.setdefault(state_after(state, job, machine), with_job(plan, machine, job[0]))
        states = least_states(found)
        table.append(tuple(list(states)))
    if not states:
        return None
    late, plan = min([(state[1], plan) for state, plan in states.items()])
    return late, plan, tuple(table)


def is_state(thing, machines, is_first):
    """Whether a thing is a state; at the beginning there may be no lateness."""
    if not is_tuple_of(thing, 2) or not is_tuple_of(thing[0], machines):
        return False
    return all([is_time(load) for load in thing[0]]) and (is_integer(thing[1]) or (is_first and thing[1] is None))


def is_table(thing, many, machines):
    """Whether a thing is a table for so many jobs."""
    if not is_tuple_of(thing, many + 1) or not all([isinstance(states, tuple) for states in thing]):
        return False
    return all([is_state(state, machines, k == 0) for k, states in enumerate(thing) for state in states])


def goes_on(states, job, later):
    """Whether for all that comes of states by a job there is a later one that is nowhere more."""
    for state in states:
        for machine in machines_for(job):
            told = state_after(state, job, machine)
            if not any([is_no_more(other, told) for other in later]):
                return False
    return True


def is_least(jobs, machines, plan, table):
    """Whether a plan has a lateness, and a table shows that none has a less one."""
    lateness = lateness_of(jobs, machines, plan)
    if lateness is None or not is_table(table, len(jobs), machines):
        return False
    if (tuple([0] * machines), None) not in table[0]:
        return False
    if not all([goes_on(*step) for step in zip(table, by_due_times(jobs), table[1:])]):
        return False
    return all([state[1] >= lateness for state in table[-1]])

"""Every policy on the same jobs, each on a machine of its own."""

from jobsched.jobs import DONE, Job
from jobsched.machine import Machine, run_until_over
from jobsched.policies import POLICY_COUNT


def job_anew(job):
    told = (job.comes, job.urgency, job.shares, job.deadline, job.rounds)
    return Job(job.number, told, job.parts)


def machine_anew(machine, policy):
    other = Machine(policy, machine.slice_ticks, machine.age, machine.boost)
    other.jobs = [job_anew(job) for job in machine.jobs]
    return other


def lateness_told(done):
    found = [job.ended - (job.comes + job.deadline) for job in done if job.deadline > 0]
    if len(found) == 0:
        return [0]
    return [1, max(found)]


def outcome(machine):
    done = [job for job in machine.jobs if job.stands == DONE]
    told = [len(done), sum([job.ended for job in done])]
    told.extend(lateness_told(done))
    told.append(max([job.longest_wait for job in machine.jobs], default=0))
    return told


def outcomes(machine, most):
    told = []
    for policy in range(POLICY_COUNT):
        other = machine_anew(machine, policy)
        run_until_over(other, most)
        told.extend(outcome(other))
    return told

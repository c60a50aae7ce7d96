package tasks

import (
	"slices"
	"testing"

	"jacinth/api"
)

const (
	most  = 1<<63 - 1
	least = -1 << 63
)

// strange are numbers far off that codes may be as well as any other.
func strange() []int {
	return []int{least, least + 1, -1 << 32, -api.MaxSlots, -2, -1, 0, 1, 2, api.MaxSlots, 1 << 32, 1<<32 + 1, most - 1, most}
}

// noTasks are numbers that no task has in a tree of fewer than 1000 tasks.
func noTasks() []int {
	return []int{least, least + 1, -1<<32 + 1, -1 << 32, -2, -1, 0, 1000, api.MaxSlots, api.MaxSlots + 1, 1 << 32, 1<<32 + 1, most - 1, most}
}

// begin makes a tree, which there must be.
func begin(t *testing.T, count int) *Tree {
	t.Helper()
	made := New(count)
	if made == nil {
		t.Fatalf("New(%d): nil", count)
	}
	return made
}

// status holds a status against the one that is right.
func status(t *testing.T, want, got api.Status) {
	t.Helper()
	if got != want {
		t.Errorf("%d; right is %d", got, want)
	}
}

// made makes a task, which there must be, and of which there are these numbers.
func made(t *testing.T, of *Tree, kind, parent, want int) {
	t.Helper()
	if id, s := of.Make(kind, parent); id != want || s != api.OK {
		t.Errorf("Make(%d, %d): %d, %d; right is %d, 0", kind, parent, id, s, want)
	}
}

// notMade asks for a task that must be refused.
func notMade(t *testing.T, of *Tree, kind, parent int, want api.Status) {
	t.Helper()
	if id, s := of.Make(kind, parent); id != 0 || s != want {
		t.Errorf("Make(%d, %d): %d, %d; right is 0, %d", kind, parent, id, s, want)
	}
}

// killed kills a task, and just these must die, in this order.
func killed(t *testing.T, of *Tree, id, code int, want ...int) {
	t.Helper()
	if dead, s := of.Kill(id, code); !slices.Equal(dead, want) || s != api.OK {
		t.Errorf("Kill(%d, %d): %v, %d; right is %v, 0", id, code, dead, s, want)
	}
	for _, x := range want {
		if i, ok := of.Info(x); !ok || i.State != 2 || i.Code != code {
			t.Errorf("Info(%d): %v, %t; right is a dead one of code %d", x, i, ok, code)
		}
	}
}

// notKilled kills what must be refused.
func notKilled(t *testing.T, of *Tree, id int, want api.Status) {
	t.Helper()
	if dead, s := of.Kill(id, 7); len(dead) != 0 || s != want {
		t.Errorf("Kill(%d): %v, %d; right is none, %d", id, dead, s, want)
	}
}

// left lets a thread exit, and just these must die, in this order.
func left(t *testing.T, of *Tree, thread, code int, want ...int) {
	t.Helper()
	if dead, s := of.Exit(thread, code); !slices.Equal(dead, want) || s != api.OK {
		t.Errorf("Exit(%d, %d): %v, %d; right is %v, 0", thread, code, dead, s, want)
	}
	for _, x := range want {
		if i, ok := of.Info(x); !ok || i.State != 2 || i.Code != code {
			t.Errorf("Info(%d): %v, %t; right is a dead one of code %d", x, i, ok, code)
		}
	}
}

// notLeft lets exit what must be refused.
func notLeft(t *testing.T, of *Tree, thread int, want api.Status) {
	t.Helper()
	if dead, s := of.Exit(thread, 7); len(dead) != 0 || s != want {
		t.Errorf("Exit(%d): %v, %d; right is none, %d", thread, dead, s, want)
	}
}

// info holds what is told of a task against what is right.
func info(t *testing.T, of *Tree, id int, want Info) {
	t.Helper()
	if got, ok := of.Info(id); got != want || !ok {
		t.Errorf("Info(%d): %v, %t; right is %v, true", id, got, ok, want)
	}
}

// below holds the tasks below one against those that are right.
func below(t *testing.T, of *Tree, id int, want ...int) {
	t.Helper()
	if got := of.Below(id); !slices.Equal(got, want) {
		t.Errorf("Below(%d): %v; right is %v", id, got, want)
	}
}

// counts holds how many tasks were made and are alive against what is right.
func counts(t *testing.T, of *Tree, count, live int) {
	t.Helper()
	if of.Count() != count || of.Live() != live {
		t.Errorf("Count, Live: %d, %d; right is %d, %d", of.Count(), of.Live(), count, live)
	}
}

// family makes a tree of the root job, the jobs 2 and 3 below it, the process 4 of 2 that runs, its threads 5, that runs, and 6,
// and of 3 the process 7, that is new, and its thread 8.
func family(t *testing.T) *Tree {
	t.Helper()
	of := begin(t, 100)
	for i, x := range [][2]int{{1, 1}, {1, 1}, {2, 2}, {3, 4}, {3, 4}, {2, 3}, {3, 7}} {
		made(t, of, x[0], x[1], i+2)
	}
	status(t, api.OK, of.Start(4))
	status(t, api.OK, of.Start(5))
	return of
}

// P17.1: a tree has room for 1 to MaxSlots tasks that are alive, or there is none.
func TestNew(t *testing.T) {
	for _, count := range []int{least, least + 1, -1 << 32, -1<<32 + 1, -api.MaxSlots, -1, 0, api.MaxSlots + 1, 1 << 32, 1<<32 + 1, most} {
		if New(count) != nil {
			t.Errorf("New(%d): not nil", count)
		}
	}
	for _, count := range []int{1, 2, 3, api.MaxSlots - 1, api.MaxSlots} {
		of := begin(t, count)
		info(t, of, 1, Info{Kind: api.Job, State: 1})
		below(t, of, 1)
		counts(t, of, 1, 1)
	}
}

// P17.1, P17.2: the examples of the chapter.
func TestExamples(t *testing.T) {
	of := begin(t, 8)
	made(t, of, api.Job, 1, 2)
	made(t, of, api.Process, 2, 3)
	status(t, api.OK, of.Start(3))
	made(t, of, api.Thread, 3, 4)
	status(t, api.OK, of.Start(4))
	left(t, of, 4, 7, 4, 3)
	killed(t, of, 1, 9, 2, 1)
	info(t, of, 4, Info{Kind: api.Thread, Parent: 3, State: 2, Code: 7})
}

// P17.1: what may stand below what, of all kinds that there are and some that there aren't.
func TestMakeKinds(t *testing.T) {
	parents := map[int]int{1: api.Job, 4: api.Process, 7: api.Process, 5: api.Thread, 6: api.Thread}
	for _, kind := range append([]int{3, 4, 5, 6, 7, 8, 9, 10, 11, 12}, strange()...) {
		for parent, of := range parents {
			right := (kind == api.Job || kind == api.Process) && of == api.Job || kind == api.Thread && of == api.Process
			if right {
				made(t, family(t), kind, parent, 9)
				continue
			}
			tree := family(t)
			notMade(t, tree, kind, parent, api.ErrWrongType)
			counts(t, tree, 8, 8)
		}
	}
}

// P17.1: a task that is made is new and below its parent; a job runs.
func TestMake(t *testing.T) {
	of := family(t)
	info(t, of, 2, Info{Kind: api.Job, Parent: 1, State: 1})
	info(t, of, 4, Info{Kind: api.Process, Parent: 2, State: 1})
	info(t, of, 5, Info{Kind: api.Thread, Parent: 4, State: 1})
	info(t, of, 6, Info{Kind: api.Thread, Parent: 4})
	info(t, of, 7, Info{Kind: api.Process, Parent: 3})
	info(t, of, 8, Info{Kind: api.Thread, Parent: 7})
	counts(t, of, 8, 8)
}

// P17.1: of several errors the first that the promise names is told.
func TestMakeErrorsInOrder(t *testing.T) {
	of := begin(t, 20)
	for _, id := range noTasks() {
		notMade(t, of, api.Job, id, api.ErrNotFound)
		notMade(t, of, 77, id, api.ErrNotFound)
	}
	status(t, api.OK, of.SetPolicy(1, 0))
	for i := range 15 {
		made(t, of, api.Job, i+1, i+2)
	}
	// The job 16 is the last that may stand below another; its policy forbids all, so that depth is not told.
	notMade(t, of, api.Job, 16, api.ErrOutOfRange)
	made(t, of, api.Process, 15, 17)
	made(t, of, api.Process, 15, 18)
	made(t, of, api.Process, 15, 19)
	made(t, of, api.Process, 15, 20)
	// No task more has room; depth is told ahead of that.
	notMade(t, of, api.Process, 16, api.ErrNoMemory)
	notMade(t, of, api.Thread, 17, api.ErrNoMemory)
	notMade(t, of, api.Job, 15, api.ErrNoMemory)
	notMade(t, of, api.Job, 16, api.ErrOutOfRange)
	status(t, api.OK, of.SetPolicy(16, 7))
	notMade(t, of, api.Job, 16, api.ErrAccessDenied)
	notMade(t, of, api.Process, 16, api.ErrAccessDenied)
	notMade(t, of, api.Thread, 16, api.ErrWrongType)
	killed(t, of, 16, 1, 16)
	notMade(t, of, api.Job, 16, api.ErrBadState)
	notMade(t, of, api.Process, 16, api.ErrBadState)
	notMade(t, of, api.Thread, 16, api.ErrWrongType)
	notMade(t, of, api.None, 16, api.ErrWrongType)
	killed(t, of, 17, 1, 17)
	notMade(t, of, api.Thread, 17, api.ErrBadState)
	notMade(t, of, api.Process, 17, api.ErrWrongType)
	counts(t, of, 20, 18)
	made(t, of, api.Process, 15, 21)
	made(t, of, api.Thread, 18, 22)
	notMade(t, of, api.Thread, 18, api.ErrNoMemory)
}

// P17.1: just MaxDepth jobs may stand one below the other, the root job among them; processes and threads stand below the last.
func TestDepth(t *testing.T) {
	of := begin(t, api.MaxSlots)
	for i := 1; i < api.MaxDepth; i++ {
		made(t, of, api.Job, i, i+1)
	}
	notMade(t, of, api.Job, api.MaxDepth, api.ErrOutOfRange)
	made(t, of, api.Job, api.MaxDepth-1, api.MaxDepth+1)
	notMade(t, of, api.Job, api.MaxDepth+1, api.ErrOutOfRange)
	made(t, of, api.Process, api.MaxDepth, api.MaxDepth+2)
	made(t, of, api.Thread, api.MaxDepth+2, api.MaxDepth+3)
	counts(t, of, api.MaxDepth+3, api.MaxDepth+3)
}

// P17.1: just so many tasks may be alive; dead ones leave room.
func TestRoom(t *testing.T) {
	alone := begin(t, 1)
	notMade(t, alone, api.Job, 1, api.ErrNoMemory)
	notMade(t, alone, api.Process, 1, api.ErrNoMemory)
	notMade(t, alone, api.Thread, 1, api.ErrWrongType)
	of := begin(t, 4)
	made(t, of, api.Process, 1, 2)
	made(t, of, api.Thread, 2, 3)
	made(t, of, api.Job, 1, 4)
	for i := range 40 {
		notMade(t, of, api.Thread, 2, api.ErrNoMemory)
		killed(t, of, i+4, 1, i+4)
		made(t, of, api.Job, 1, i+5)
		counts(t, of, i+5, 4)
	}
	killed(t, of, 2, 1, 3, 2)
	made(t, of, api.Process, 44, 45)
	made(t, of, api.Thread, 45, 46)
	notMade(t, of, api.Thread, 45, api.ErrNoMemory)
}

// P17.1: of each policy, what it forbids: directly below the job itself, and below the jobs that were made there, which have it too.
func TestPolicies(t *testing.T) {
	for bits := range 16 {
		of := begin(t, 100)
		made(t, of, api.Process, 1, 2)
		made(t, of, api.Job, 1, 3)
		killed(t, of, 2, 0, 2)
		killed(t, of, 3, 0, 3)
		status(t, api.OK, of.SetPolicy(1, bits))
		info(t, of, 1, Info{Kind: api.Job, State: 1, Policy: bits})
		made4 := bits&2 == 0
		if !made4 {
			notMade(t, of, api.Job, 1, api.ErrAccessDenied)
		} else {
			made(t, of, api.Job, 1, 4)
			info(t, of, 4, Info{Kind: api.Job, Parent: 1, State: 1, Policy: bits})
			made(t, of, api.Job, 4, 5)
			info(t, of, 5, Info{Kind: api.Job, Parent: 4, State: 1, Policy: bits})
		}
		job := 1
		if made4 {
			job = 5
		}
		if bits&1 != 0 {
			notMade(t, of, api.Process, job, api.ErrAccessDenied)
			notMade(t, of, api.Process, 1, api.ErrAccessDenied)
			continue
		}
		process, s := of.Make(api.Process, job)
		status(t, api.OK, s)
		info(t, of, process, Info{Kind: api.Process, Parent: job})
		if bits&4 != 0 {
			notMade(t, of, api.Thread, process, api.ErrAccessDenied)
		} else {
			made(t, of, api.Thread, process, process+1)
		}
		critical := api.OK
		if bits&8 != 0 {
			critical = api.ErrAccessDenied
		}
		status(t, critical, of.SetCritical(process, 1))
	}
}

// P17.1: a policy that a job gets is that of the job itself, and not of one that was made of the same parent ahead of it.
func TestPolicyOfOneJob(t *testing.T) {
	of := begin(t, 100)
	made(t, of, api.Job, 1, 2)
	made(t, of, api.Job, 1, 3)
	status(t, api.OK, of.SetPolicy(2, 1))
	notMade(t, of, api.Process, 2, api.ErrAccessDenied)
	made(t, of, api.Process, 3, 4)
	made(t, of, api.Job, 2, 5)
	notMade(t, of, api.Process, 5, api.ErrAccessDenied)
	made(t, of, api.Process, 1, 6)
	info(t, of, 3, Info{Kind: api.Job, Parent: 1, State: 1})
	// A policy that a job gets behind its processes is asked when their threads are made; what is alive hinders it, so all must be dead.
	killed(t, of, 4, 0, 4)
	status(t, api.OK, of.SetPolicy(3, 4))
	notMade(t, of, api.Thread, 4, api.ErrBadState)
	made(t, of, api.Process, 3, 7)
	notMade(t, of, api.Thread, 7, api.ErrAccessDenied)
}

// P17.2: what may start, and when.
func TestStart(t *testing.T) {
	of := family(t)
	for _, id := range noTasks() {
		status(t, api.ErrNotFound, of.Start(id))
	}
	status(t, api.ErrWrongType, of.Start(1))
	status(t, api.ErrWrongType, of.Start(2))
	status(t, api.ErrBadState, of.Start(4))
	status(t, api.ErrBadState, of.Start(5))
	status(t, api.ErrBadState, of.Start(8))
	info(t, of, 8, Info{Kind: api.Thread, Parent: 7})
	status(t, api.OK, of.Start(7))
	status(t, api.OK, of.Start(8))
	info(t, of, 7, Info{Kind: api.Process, Parent: 3, State: 1})
	info(t, of, 8, Info{Kind: api.Thread, Parent: 7, State: 1})
	status(t, api.ErrBadState, of.Start(7))
	status(t, api.OK, of.Start(6))
	killed(t, of, 6, 3, 6)
	status(t, api.ErrBadState, of.Start(6))
	killed(t, of, 3, 3, 8, 7, 3)
	status(t, api.ErrBadState, of.Start(7))
	status(t, api.ErrBadState, of.Start(8))
	status(t, api.ErrWrongType, of.Start(3))
	counts(t, of, 8, 4)
}

// P17.2: a kill of each task of the family kills it and all below it, those below first.
func TestKill(t *testing.T) {
	want := [][]int{{5, 6, 4, 2, 8, 7, 3, 1}, {5, 6, 4, 2}, {8, 7, 3}, {5, 6, 4}, {5}, {6}, {8, 7}, {8}}
	for i, dead := range want {
		for _, code := range strange() {
			of := family(t)
			killed(t, of, i+1, code, dead...)
			counts(t, of, 8, 8-len(dead))
			notKilled(t, of, i+1, api.ErrBadState)
			for id := 1; id <= 8; id++ {
				if of.Alive(id) == slices.Contains(dead, id) {
					t.Errorf("Alive(%d): %t, behind Kill(%d)", id, of.Alive(id), i+1)
				}
			}
		}
	}
}

// P17.2, P17.5: what died ahead is not told again, and keeps its code.
func TestKillInParts(t *testing.T) {
	of := family(t)
	for _, id := range noTasks() {
		notKilled(t, of, id, api.ErrNotFound)
	}
	killed(t, of, 5, 11, 5)
	killed(t, of, 4, 12, 6, 4)
	killed(t, of, 8, 13, 8)
	killed(t, of, 1, 14, 2, 7, 3, 1)
	for id, code := range []int{14, 14, 14, 12, 11, 12, 14, 13} {
		if i, ok := of.Info(id + 1); !ok || i.Code != code || i.State != 2 {
			t.Errorf("Info(%d): %v; right is the code %d", id+1, i, code)
		}
		notKilled(t, of, id+1, api.ErrBadState)
	}
	counts(t, of, 8, 0)
	notMade(t, of, api.Job, 1, api.ErrBadState)
}

// P17.2: the last thread that is alive takes its process along, when it exits; one that is new keeps it.
func TestExit(t *testing.T) {
	of := family(t)
	for _, id := range noTasks() {
		notLeft(t, of, id, api.ErrNotFound)
	}
	for _, id := range []int{1, 2, 3, 4, 7} {
		notLeft(t, of, id, api.ErrWrongType)
	}
	notLeft(t, of, 6, api.ErrBadState)
	notLeft(t, of, 8, api.ErrBadState)
	left(t, of, 5, 21, 5)
	notLeft(t, of, 5, api.ErrBadState)
	info(t, of, 4, Info{Kind: api.Process, Parent: 2, State: 1})
	status(t, api.OK, of.Start(6))
	left(t, of, 6, 22, 6, 4)
	info(t, of, 5, Info{Kind: api.Thread, Parent: 4, State: 2, Code: 21})
	info(t, of, 4, Info{Kind: api.Process, Parent: 2, State: 2, Code: 22})
	notLeft(t, of, 4, api.ErrWrongType)
	counts(t, of, 8, 5)
	// A process whose threads are killed, and don't exit, goes on.
	status(t, api.OK, of.Start(7))
	status(t, api.OK, of.Start(8))
	killed(t, of, 8, 23, 8)
	info(t, of, 7, Info{Kind: api.Process, Parent: 3, State: 1})
	made(t, of, api.Thread, 7, 9)
	status(t, api.OK, of.Start(9))
	left(t, of, 9, least, 9, 7)
}

// P17.2: of a job that a process is critical to, all dies when it exits or is killed.
func TestCritical(t *testing.T) {
	of := family(t)
	status(t, api.OK, of.SetCritical(4, 2))
	info(t, of, 4, Info{Kind: api.Process, Parent: 2, State: 1, Critical: 2})
	left(t, of, 5, 5, 5)
	status(t, api.OK, of.Start(6))
	left(t, of, 6, 6, 6, 4, 2)
	info(t, of, 4, Info{Kind: api.Process, Parent: 2, State: 2, Code: 6, Critical: 2})
	counts(t, of, 8, 4)

	of = family(t)
	status(t, api.OK, of.SetCritical(4, 1))
	killed(t, of, 4, 7, 5, 6, 4, 2, 8, 7, 3, 1)

	of = family(t)
	status(t, api.OK, of.SetCritical(7, 1))
	killed(t, of, 8, 7, 8)
	killed(t, of, 7, 8, 7, 5, 6, 4, 2, 3, 1)

	of = family(t)
	status(t, api.OK, of.SetCritical(4, 2))
	killed(t, of, 2, 7, 5, 6, 4, 2)
	counts(t, of, 8, 4)
}

// P17.2: a job that dies by a process does so just when that is dead: ahead of what would have died next.
func TestCriticalInBetween(t *testing.T) {
	of := begin(t, 100)
	made(t, of, api.Process, 1, 2)
	made(t, of, api.Job, 1, 3)
	made(t, of, api.Process, 3, 4)
	made(t, of, api.Process, 3, 5)
	made(t, of, api.Job, 1, 6)
	status(t, api.OK, of.SetCritical(4, 1))
	killed(t, of, 3, 9, 4, 2, 5, 3, 6, 1)

	// With several of them: 6 is critical to the job 2, and 8 to the root job; the job 5 is killed.
	of = begin(t, 100)
	made(t, of, api.Job, 1, 2)
	made(t, of, api.Process, 1, 3)
	made(t, of, api.Process, 2, 4)
	made(t, of, api.Job, 2, 5)
	made(t, of, api.Process, 5, 6)
	made(t, of, api.Process, 5, 7)
	made(t, of, api.Process, 5, 8)
	made(t, of, api.Process, 5, 9)
	made(t, of, api.Process, 2, 10)
	made(t, of, api.Thread, 8, 11)
	status(t, api.OK, of.SetCritical(6, 2))
	status(t, api.OK, of.SetCritical(8, 1))
	killed(t, of, 5, 9, 6, 4, 7, 11, 8, 9, 5, 10, 2, 3, 1)
	counts(t, of, 11, 0)

	// The same, but the one that is critical to the root job comes first.
	of = begin(t, 100)
	made(t, of, api.Process, 1, 2)
	made(t, of, api.Job, 1, 3)
	made(t, of, api.Process, 3, 4)
	made(t, of, api.Job, 3, 5)
	made(t, of, api.Process, 5, 6)
	made(t, of, api.Process, 5, 7)
	status(t, api.OK, of.SetCritical(6, 1))
	status(t, api.OK, of.SetCritical(7, 3))
	status(t, api.OK, of.SetCritical(2, 1))
	killed(t, of, 6, 9, 6, 2, 4, 7, 5, 3, 1)
}

// P17.2: an exit that kills its process, which is critical, in between what is below its job.
func TestExitCritical(t *testing.T) {
	of := begin(t, 100)
	made(t, of, api.Job, 1, 2)
	made(t, of, api.Process, 2, 3)
	made(t, of, api.Process, 2, 4)
	made(t, of, api.Thread, 4, 5)
	made(t, of, api.Process, 2, 6)
	made(t, of, api.Thread, 3, 7)
	status(t, api.OK, of.Start(4))
	status(t, api.OK, of.Start(5))
	status(t, api.OK, of.SetCritical(4, 2))
	left(t, of, 5, -5, 5, 4, 7, 3, 6, 2)
	counts(t, of, 7, 1)
}

// P17.3: when a policy may be set; bits are added to those that were set.
func TestSetPolicy(t *testing.T) {
	of := family(t)
	for _, id := range noTasks() {
		status(t, api.ErrNotFound, of.SetPolicy(id, 0))
		status(t, api.ErrNotFound, of.SetPolicy(id, 16))
	}
	for _, id := range []int{4, 5, 6, 7, 8} {
		status(t, api.ErrWrongType, of.SetPolicy(id, 0))
		status(t, api.ErrWrongType, of.SetPolicy(id, 16))
	}
	for _, bits := range []int{least, least + 1, -1 << 32, -1, 16, 17, 31, 1 << 32, 1<<32 + 1, most} {
		status(t, api.ErrInvalidArgs, of.SetPolicy(1, bits))
	}
	status(t, api.ErrBadState, of.SetPolicy(1, 0))
	status(t, api.ErrBadState, of.SetPolicy(2, 15))
	status(t, api.ErrBadState, of.SetPolicy(3, 15))
	info(t, of, 3, Info{Kind: api.Job, Parent: 1, State: 1})
	killed(t, of, 8, 0, 8)
	status(t, api.ErrBadState, of.SetPolicy(3, 1))
	killed(t, of, 7, 0, 7)
	for _, x := range [][2]int{{0, 0}, {1, 1}, {4, 5}, {0, 5}, {5, 5}, {8, 13}, {2, 15}, {15, 15}, {0, 15}} {
		status(t, api.OK, of.SetPolicy(3, x[0]))
		info(t, of, 3, Info{Kind: api.Job, Parent: 1, State: 1, Policy: x[1]})
	}
	killed(t, of, 3, 5, 3)
	status(t, api.ErrInvalidArgs, of.SetPolicy(3, 16))
	status(t, api.ErrBadState, of.SetPolicy(3, 0))
	info(t, of, 3, Info{Kind: api.Job, Parent: 1, State: 2, Code: 5, Policy: 15})
	info(t, of, 1, Info{Kind: api.Job, State: 1})
}

// P17.3: a job with nothing but a job below it has something alive below it.
func TestSetPolicyAboveJob(t *testing.T) {
	of := begin(t, 9)
	made(t, of, api.Job, 1, 2)
	made(t, of, api.Job, 2, 3)
	status(t, api.ErrBadState, of.SetPolicy(1, 1))
	status(t, api.ErrBadState, of.SetPolicy(2, 1))
	status(t, api.OK, of.SetPolicy(3, 1))
	killed(t, of, 3, 0, 3)
	status(t, api.ErrBadState, of.SetPolicy(1, 1))
	status(t, api.OK, of.SetPolicy(2, 2))
	killed(t, of, 2, 0, 2)
	status(t, api.OK, of.SetPolicy(1, 3))
	info(t, of, 3, Info{Kind: api.Job, Parent: 2, State: 2, Policy: 1})
}

// P17.3: what may be critical to what, and of several errors the first.
func TestSetCritical(t *testing.T) {
	of := family(t)
	for _, id := range noTasks() {
		status(t, api.ErrNotFound, of.SetCritical(id, 1))
		status(t, api.ErrNotFound, of.SetCritical(4, id))
		status(t, api.ErrNotFound, of.SetCritical(5, id))
		status(t, api.ErrNotFound, of.SetCritical(id, 4))
		status(t, api.ErrNotFound, of.SetCritical(id, id))
	}
	for process := 1; process <= 8; process++ {
		for job := 1; job <= 8; job++ {
			want := api.OK
			switch {
			case process != 4 && process != 7 || job > 3:
				want = api.ErrWrongType
			case process == 4 && job == 3 || process == 7 && job == 2:
				want = api.ErrInvalidArgs
			}
			status(t, want, family(t).SetCritical(process, job))
		}
	}
	status(t, api.OK, of.SetCritical(4, 2))
	status(t, api.ErrInvalidArgs, of.SetCritical(4, 3))
	status(t, api.ErrBadState, of.SetCritical(4, 2))
	status(t, api.ErrBadState, of.SetCritical(4, 1))
	info(t, of, 4, Info{Kind: api.Process, Parent: 2, State: 1, Critical: 2})
	killed(t, of, 7, 0, 8, 7)
	status(t, api.ErrBadState, of.SetCritical(7, 1))
	status(t, api.ErrInvalidArgs, of.SetCritical(7, 2))
	killed(t, of, 3, 0, 3)
	status(t, api.ErrInvalidArgs, of.SetCritical(4, 3))
	status(t, api.ErrBadState, of.SetCritical(7, 3))
	info(t, of, 7, Info{Kind: api.Process, Parent: 3, State: 2})
	killed(t, of, 1, 0, 5, 6, 4, 2, 1)
	status(t, api.ErrBadState, of.SetCritical(4, 1))
}

// P17.3: a policy of any job from the process's own up to the other one forbids it; one above that doesn't.
func TestSetCriticalForbidden(t *testing.T) {
	// The policy is set at the job of each depth, and then all jobs below it have it.
	for forbids := 1; forbids <= 5; forbids++ {
		for bits := range 16 {
			for job := 1; job <= 5; job++ {
				of := begin(t, 9)
				for at := 1; at <= 5; at++ {
					if at == forbids {
						status(t, api.OK, of.SetPolicy(at, bits&^3))
					}
					if at < 5 {
						made(t, of, api.Job, at, at+1)
					}
				}
				made(t, of, api.Process, 5, 6)
				want := api.OK
				if bits&8 != 0 {
					want = api.ErrAccessDenied
				}
				status(t, want, of.SetCritical(6, job))
				// Of a process dead already that is told first.
				killed(t, of, 6, 0, append([]int{6}, died(want, job)...)...)
				status(t, api.ErrBadState, of.SetCritical(6, 1))
			}
		}
	}
}

// died are the jobs that die with the process of the job 5, if that was made critical to the job.
func died(s api.Status, job int) (dead []int) {
	for at := 5; s == api.OK && at >= job; at-- {
		dead = append(dead, at)
	}
	return dead
}

// P17.3: the policy of the job that is meant, or of one below it, forbids it; that of a job beside them doesn't.
func TestSetCriticalForbiddenBeside(t *testing.T) {
	of := begin(t, 20)
	made(t, of, api.Job, 1, 2)
	made(t, of, api.Job, 1, 3)
	status(t, api.OK, of.SetPolicy(2, 8))
	made(t, of, api.Process, 2, 4)
	made(t, of, api.Process, 3, 5)
	made(t, of, api.Job, 2, 6)
	made(t, of, api.Process, 6, 7)
	made(t, of, api.Process, 1, 8)
	for _, x := range [][2]int{{4, 1}, {4, 2}, {7, 1}, {7, 2}, {7, 6}} {
		status(t, api.ErrAccessDenied, of.SetCritical(x[0], x[1]))
		status(t, api.ErrInvalidArgs, of.SetCritical(x[0], 3))
	}
	info(t, of, 4, Info{Kind: api.Process, Parent: 2})
	info(t, of, 7, Info{Kind: api.Process, Parent: 6})
	status(t, api.OK, of.SetCritical(5, 3))
	status(t, api.OK, of.SetCritical(8, 1))
}

// P17.4: what is told of a tree.
func TestTold(t *testing.T) {
	of := family(t)
	want := [][]int{{2, 3}, {4}, {7}, {5, 6}, {}, {}, {8}, {}}
	above := [][]int{{1}, {1, 2}, {1, 3}, {1, 2, 4}, {1, 2, 4, 5}, {1, 2, 4, 6}, {1, 3, 7}, {1, 3, 7, 8}}
	for range 2 {
		for id := 1; id <= 8; id++ {
			below(t, of, id, want[id-1]...)
			for top := 1; top <= 8; top++ {
				if got := of.Under(id, top); got != slices.Contains(above[id-1], top) {
					t.Errorf("Under(%d, %d): %t", id, top, got)
				}
			}
		}
		// What is dead stands where it stood.
		if of.Alive(1) {
			killed(t, of, 1, 0, 5, 6, 4, 2, 8, 7, 3, 1)
		}
	}
	counts(t, of, 8, 0)
}

// P17.4: of what is no task nothing is told.
func TestToldOfNone(t *testing.T) {
	of := family(t)
	for _, id := range noTasks() {
		if got, ok := of.Info(id); got != (Info{}) || ok {
			t.Errorf("Info(%d): %v, %t", id, got, ok)
		}
		below(t, of, id)
		if of.Alive(id) || of.Under(id, id) || of.Under(id, 1) || of.Under(5, id) {
			t.Errorf("Alive or Under of %d: true", id)
		}
	}
	if _, ok := of.Info(9); ok || of.Alive(9) {
		t.Errorf("Info(9), Alive(9): true ahead of its being made")
	}
	made(t, of, api.Job, 1, 9)
	if !of.Alive(9) {
		t.Errorf("Alive(9): false")
	}
}

// spoil sets all places of a list, spare ones too.
func spoil(list []int) {
	for i := range list[:cap(list)] {
		list[:cap(list)][i] = -77
	}
}

// P17.2, P17.4: what is told is new memory, spare room too.
func TestNewMemory(t *testing.T) {
	of := family(t)
	for id := 1; id <= 8; id++ {
		spoil(of.Below(id))
	}
	below(t, of, 1, 2, 3)
	below(t, of, 4, 5, 6)
	made(t, of, api.Job, 1, 9)
	list := of.Below(1)
	spoil(list)
	made(t, of, api.Job, 1, 10)
	below(t, of, 1, 2, 3, 9, 10)
	dead, _ := of.Kill(4, 1)
	spoil(dead)
	below(t, of, 4, 5, 6)
	killed(t, of, 1, 1, 2, 8, 7, 3, 9, 10, 1)
	if slices.Contains(dead, 1) {
		t.Errorf("what an answer told was changed by the next")
	}
}

// P17.1 to P17.5: trees know nothing of each other.
func TestApart(t *testing.T) {
	one, other := family(t), family(t)
	killed(t, one, 2, 1, 5, 6, 4, 2)
	counts(t, other, 8, 8)
	made(t, other, api.Job, 1, 9)
	notKilled(t, one, 9, api.ErrNotFound)
	status(t, api.OK, other.SetCritical(4, 2))
	info(t, one, 4, Info{Kind: api.Process, Parent: 2, State: 2, Code: 1})
	status(t, api.OK, one.Start(7))
	info(t, other, 7, Info{Kind: api.Process, Parent: 3})
}

// P17.1, P17.2: as many tasks as may be, all of which die at once, each critical to the root job.
func TestAtTheLimit(t *testing.T) {
	of := begin(t, api.MaxSlots)
	want := make([]int, 0, api.MaxSlots)
	for id := 2; id <= api.MaxSlots; id++ {
		if got, s := of.Make(api.Process, 1); got != id || s != api.OK {
			t.Fatalf("Make: %d, %d; right is %d, 0", got, s, id)
		}
		if s := of.SetCritical(id, 1); s != api.OK {
			t.Fatalf("SetCritical(%d, 1): %d", id, s)
		}
		want = append(want, id)
	}
	notMade(t, of, api.Process, 1, api.ErrNoMemory)
	killed(t, of, 1, 3, append(want, 1)...)
	counts(t, of, api.MaxSlots, 0)
}

// P17.1, P17.2: a process that many threads came to and left, with as many of them dead, is as it was.
func TestManyThreads(t *testing.T) {
	of := begin(t, 4)
	made(t, of, api.Process, 1, 2)
	made(t, of, api.Thread, 2, 3)
	status(t, api.OK, of.Start(2))
	for i := range 200000 {
		id, s := of.Make(api.Thread, 2)
		if id != i+4 || s != api.OK {
			t.Fatalf("Make: %d, %d; right is %d, 0", id, s, i+4)
		}
		if s := of.Start(id); s != api.OK {
			t.Fatalf("Start(%d): %d", id, s)
		}
		if dead, s := of.Exit(id, i); len(dead) != 1 || dead[0] != id || s != api.OK {
			t.Fatalf("Exit(%d): %v, %d", id, dead, s)
		}
	}
	counts(t, of, 200003, 3)
	killed(t, of, 1, 3, 3, 2, 1)
}

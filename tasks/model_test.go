package tasks

import (
	"slices"
	"testing"

	"jacinth/api"
)

// model is a tree as the chapter's words have it, slow and plain: the tasks by their numbers, 0 is none.
type model struct {
	most  int
	tasks []Info
}

func newModel(count int) *model {
	return &model{most: count, tasks: []Info{{}, {Kind: 1, State: 1}}}
}

func (m *model) there(id int) bool { return id >= 1 && id < len(m.tasks) }

func (m *model) Alive(id int) bool { return m.there(id) && m.tasks[id].State != 2 }

func (m *model) Below(id int) (below []int) {
	for x := range m.tasks {
		if x > 0 && m.tasks[x].Parent == id && m.there(id) {
			below = append(below, x)
		}
	}
	return below
}

func (m *model) Under(id, top int) bool {
	return m.there(id) && (id == top || m.Under(m.tasks[id].Parent, top))
}

func (m *model) Live() (live int) {
	for id := range m.tasks {
		if m.Alive(id) {
			live++
		}
	}
	return live
}

func (m *model) Make(kind, parent int) (int, api.Status) {
	if !m.there(parent) {
		return 0, -25
	}
	p := m.tasks[parent]
	if !((kind == 1 || kind == 2) && p.Kind == 1 || kind == 3 && p.Kind == 2) {
		return 0, -12
	}
	if p.State == 2 {
		return 0, -20
	}
	policy := p.Policy
	if kind == 3 {
		policy = m.tasks[p.Parent].Policy
	}
	if policy&map[int]int{1: 2, 2: 1, 3: 4}[kind] != 0 {
		return 0, -30
	}
	jobs := 1
	for at := parent; at != 0; at = m.tasks[at].Parent {
		jobs++
	}
	if kind == 1 && jobs > 16 {
		return 0, -14
	}
	if m.Live() >= m.most {
		return 0, -4
	}
	made := Info{Kind: kind, Parent: parent}
	if kind == 1 {
		made.State, made.Policy = 1, p.Policy
	}
	m.tasks = append(m.tasks, made)
	return len(m.tasks) - 1, 0
}

func (m *model) Start(id int) api.Status {
	if !m.there(id) {
		return -25
	}
	x := &m.tasks[id]
	if x.Kind == 1 {
		return -12
	}
	if x.State != 0 || x.Kind == 3 && m.tasks[x.Parent].State != 1 {
		return -20
	}
	x.State = 1
	return 0
}

// die is the chapter's 'to die', word for word.
func (m *model) die(id, code int) (dead []int) {
	if !m.Alive(id) {
		return nil
	}
	for _, x := range m.Below(id) {
		dead = append(dead, m.die(x, code)...)
	}
	// It may have died by what was below it.
	if !m.Alive(id) {
		return dead
	}
	m.tasks[id].State, m.tasks[id].Code = 2, code
	dead = append(dead, id)
	if job := m.tasks[id].Critical; job != 0 {
		dead = append(dead, m.die(job, code)...)
	}
	return dead
}

func (m *model) Kill(id, code int) ([]int, api.Status) {
	if !m.there(id) {
		return nil, -25
	}
	if !m.Alive(id) {
		return nil, -20
	}
	return m.die(id, code), 0
}

func (m *model) Exit(thread, code int) ([]int, api.Status) {
	if !m.there(thread) {
		return nil, -25
	}
	x := m.tasks[thread]
	if x.Kind != 3 {
		return nil, -12
	}
	if x.State != 1 {
		return nil, -20
	}
	dead := m.die(thread, code)
	if !slices.ContainsFunc(m.Below(x.Parent), m.Alive) {
		dead = append(dead, m.die(x.Parent, code)...)
	}
	return dead, 0
}

func (m *model) SetPolicy(job, bits int) api.Status {
	if !m.there(job) {
		return -25
	}
	if m.tasks[job].Kind != 1 {
		return -12
	}
	if bits < 0 || bits > 15 {
		return -10
	}
	if !m.Alive(job) {
		return -20
	}
	for x := range m.tasks {
		if x != job && m.Under(x, job) && m.Alive(x) {
			return -20
		}
	}
	m.tasks[job].Policy |= bits
	return 0
}

func (m *model) SetCritical(process, job int) api.Status {
	if !m.there(process) || !m.there(job) {
		return -25
	}
	if m.tasks[process].Kind != 2 || m.tasks[job].Kind != 1 {
		return -12
	}
	if !m.Under(process, job) {
		return -10
	}
	if !m.Alive(process) || !m.Alive(job) || m.tasks[process].Critical != 0 {
		return -20
	}
	for at := m.tasks[process].Parent; ; at = m.tasks[at].Parent {
		if m.tasks[at].Policy&8 != 0 {
			return -30
		}
		if at == job {
			break
		}
	}
	m.tasks[process].Critical = job
	return 0
}

// pair is a tree and a model that are asked the same.
type pair struct {
	x *Tree
	m *model
}

func newPair(t *testing.T, count int) *pair {
	return &pair{x: begin(t, count), m: newModel(count)}
}

func (p *pair) make(t *testing.T, kind, parent int) {
	want, s := p.m.Make(kind, parent)
	if got, status := p.x.Make(kind, parent); got != want || status != s {
		t.Fatalf("Make(%d, %d): %d, %d; right is %d, %d", kind, parent, got, status, want, s)
	}
}

// dead holds those who died against those that are right.
func (p *pair) dead(t *testing.T, call string, id int, got, want []int, status, right api.Status) {
	if !slices.Equal(got, want) || status != right {
		t.Fatalf("%s(%d): %v, %d; right is %v, %d", call, id, got, status, want, right)
	}
	spoil(got)
}

func (p *pair) kill(t *testing.T, id, code int) {
	want, right := p.m.Kill(id, code)
	got, status := p.x.Kill(id, code)
	p.dead(t, "Kill", id, got, want, status, right)
	// P17.5: nothing below it is alive.
	for x := 1; right == 0 && x <= p.x.Count(); x++ {
		if p.x.Under(x, id) && p.x.Alive(x) {
			t.Fatalf("Kill(%d): %d is alive", id, x)
		}
	}
}

func (p *pair) exit(t *testing.T, id, code int) {
	want, right := p.m.Exit(id, code)
	got, status := p.x.Exit(id, code)
	p.dead(t, "Exit", id, got, want, status, right)
}

// held holds a status against the one that is right.
func (p *pair) held(t *testing.T, call string, a, b int, got, want api.Status) {
	if got != want {
		t.Fatalf("%s(%d, %d): %d; right is %d", call, a, b, got, want)
	}
}

func (p *pair) start(t *testing.T, id int) {
	p.held(t, "Start", id, 0, p.x.Start(id), p.m.Start(id))
}

func (p *pair) policy(t *testing.T, job, bits int) {
	p.held(t, "SetPolicy", job, bits, p.x.SetPolicy(job, bits), p.m.SetPolicy(job, bits))
}

func (p *pair) critical(t *testing.T, process, job int) {
	p.held(t, "SetCritical", process, job, p.x.SetCritical(process, job), p.m.SetCritical(process, job))
}

// same holds all that is told of a tree, and changes nothing, against what is right.
func (p *pair) same(t *testing.T) {
	if count, live := p.x.Count(), p.x.Live(); count != len(p.m.tasks)-1 || live != p.m.Live() {
		t.Fatalf("Count, Live: %d, %d; right is %d, %d", count, live, len(p.m.tasks)-1, p.m.Live())
	}
	for id := range len(p.m.tasks) + 1 {
		got, ok := p.x.Info(id)
		if ok != p.m.there(id) || ok && got != p.m.tasks[id] || p.x.Alive(id) != p.m.Alive(id) {
			t.Fatalf("Info(%d): %v, %t; right is one of %v", id, got, ok, p.m.tasks)
		}
		below := p.x.Below(id)
		if !slices.Equal(below, p.m.Below(id)) {
			t.Fatalf("Below(%d): %v; right is %v", id, below, p.m.Below(id))
		}
		spoil(below)
	}
}

// under holds who stands below whom against what is right.
func (p *pair) under(t *testing.T) {
	for id := range len(p.m.tasks) + 1 {
		for top := range len(p.m.tasks) + 1 {
			if got := p.x.Under(id, top); got != p.m.Under(id, top) {
				t.Fatalf("Under(%d, %d): %t", id, top, got)
			}
		}
	}
}

// small are the steps of which all short runs are gone through.
func small() []func(t *testing.T, p *pair) {
	return []func(t *testing.T, p *pair){
		func(t *testing.T, p *pair) { p.make(t, 1, 3) },
		func(t *testing.T, p *pair) { p.make(t, 3, 4) },
		func(t *testing.T, p *pair) { p.make(t, 2, 1) },
		func(t *testing.T, p *pair) { p.start(t, 4) },
		func(t *testing.T, p *pair) { p.start(t, 5) },
		func(t *testing.T, p *pair) { p.exit(t, 5, 7) },
		func(t *testing.T, p *pair) { p.kill(t, 3, 8) },
		func(t *testing.T, p *pair) { p.kill(t, 4, 9) },
		func(t *testing.T, p *pair) { p.policy(t, 3, 8) },
		func(t *testing.T, p *pair) { p.policy(t, 2, 7) },
		func(t *testing.T, p *pair) { p.critical(t, 4, 1) },
		func(t *testing.T, p *pair) { p.critical(t, 6, 3) },
		func(t *testing.T, p *pair) { p.critical(t, 4, 3) },
	}
}

// P17.1 to P17.5: all runs of five of the small steps behind a beginning, with too little room and with enough; at the end all is dead.
func TestAllShortRuns(t *testing.T) {
	steps := small()
	runs := 1
	for range 5 {
		runs *= len(steps)
	}
	for _, count := range []int{6, 9} {
		for run := range runs {
			p := newPair(t, count)
			p.make(t, 2, 1)
			p.make(t, 1, 1)
			p.make(t, 2, 3)
			p.make(t, 3, 4)
			left := run
			for range 5 {
				steps[left%len(steps)](t, p)
				left /= len(steps)
			}
			p.same(t)
			p.kill(t, 1, 6)
			p.same(t)
		}
	}
}

// draws are numbers that hang on a seed alone.
type draws struct {
	seed uint64
}

// draw tells a number from 0 to below n.
func (d *draws) draw(n int) int {
	d.seed = d.seed*6364136223846793005 + 1442695040888963407
	return int(d.seed>>33) % n
}

// task tells a task, mostly a late one that is alive.
func (d *draws) task(p *pair) int {
	count := p.x.Count()
	if d.draw(40) == 0 {
		numbers := append(noTasks(), count+1)
		return numbers[d.draw(len(numbers))]
	}
	for range 4 {
		id := count - d.draw(min(count, 30))
		if p.m.Alive(id) {
			return id
		}
	}
	return 1 + d.draw(count)
}

// of tells a task of a kind, mostly: the last one behind the place of another.
func (d *draws) of(p *pair, kind int) int {
	id := d.task(p)
	for at := id; at >= 1 && at < len(p.m.tasks) && d.draw(50) != 0; at-- {
		if p.m.tasks[at].Kind == kind && p.m.Alive(at) {
			return at
		}
	}
	return id
}

// above tells a task that stands above this one, or one of all.
func (d *draws) above(p *pair, id int) int {
	if d.draw(10) == 0 || !p.m.there(id) {
		return d.task(p)
	}
	at := p.m.tasks[id].Parent
	for d.draw(2) == 0 && at > 1 {
		at = p.m.tasks[at].Parent
	}
	return at
}

// kind tells a kind, mostly one of tasks.
func (d *draws) kind() int {
	if d.draw(40) == 0 {
		return d.draw(20) - 5
	}
	return 1 + d.draw(3)
}

// step asks both one thing.
func (d *draws) step(t *testing.T, p *pair, deaths int) {
	switch d.draw(24) {
	default:
		kind := d.kind()
		p.make(t, kind, d.of(p, []int{1, 1, 2}[max(kind-1, 0)%3]))
	case 12, 13, 14:
		p.start(t, d.of(p, 2))
	case 15, 16, 17:
		p.start(t, d.of(p, 3))
	case 18, 19:
		p.exit(t, d.of(p, 3), d.draw(9))
	case 20:
		if d.draw(deaths) == 0 {
			p.kill(t, d.task(p), d.draw(9))
		}
	case 21:
		bits := d.draw(16) & d.draw(16) & d.draw(17)
		if d.draw(9) == 0 {
			bits = d.draw(40) - 20
		}
		p.policy(t, d.of(p, 1), bits)
	case 22, 23:
		id := d.of(p, 2)
		p.critical(t, id, d.above(p, id))
	}
}

// P17.1 to P17.5: thousands of calls come to what they come to as the chapter says it, word for word.
func TestAgainstModel(t *testing.T) {
	for i, count := range []int{1, 2, 3, 5, 8, 17, 40, 100} {
		for seed := range 12 {
			d := draws{seed: uint64(31*i + seed + 1)}
			p := newPair(t, count)
			for n := range 400 {
				d.step(t, p, 1+seed%4)
				if n%5 == 0 {
					p.same(t)
				}
				// A dead root job takes nothing more.
				if !p.m.Alive(1) && n%40 == 0 {
					p.under(t)
					p = newPair(t, count)
				}
			}
			p.same(t)
			p.under(t)
		}
	}
}

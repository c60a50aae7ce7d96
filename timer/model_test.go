package timer

import (
	"slices"
	"testing"

	"jacinth/api"
)

// model is timers as the chapter's words have them, slow and plain: one list of all deadlines, in order.
type model struct {
	most, clock int
	list        []at
}

// find tells where in the list a key stands, -1 if it doesn't.
func (m *model) find(key int) int {
	return slices.IndexFunc(m.list, func(a at) bool { return a.key == key })
}

// drop takes a key out of the list, and tells whether it was there.
func (m *model) drop(key int) bool {
	i := m.find(key)
	if i < 0 {
		return false
	}
	m.list = slices.Delete(m.list, i, i+1)
	return true
}

func (m *model) Set(key, deadline int) (bool, api.Status) {
	switch {
	case deadline <= m.clock:
		m.drop(key)
		return true, api.OK
	case deadline > 1<<40:
		return false, api.ErrInvalidArgs
	case m.find(key) < 0 && len(m.list) >= m.most:
		return false, api.ErrNoMemory
	}
	m.drop(key)
	i := 0
	for i < len(m.list) && (m.list[i].deadline < deadline || m.list[i].deadline == deadline && m.list[i].key < key) {
		i++
	}
	m.list = slices.Insert(m.list, i, at{key, deadline})
	return false, api.OK
}

func (m *model) Cancel(key int) api.Status {
	if !m.drop(key) {
		return api.ErrNotFound
	}
	return api.OK
}

func (m *model) Advance(by int) (due []int, s api.Status) {
	if by < 0 || by > 1<<40 || m.clock+by > 1<<40 {
		return nil, api.ErrInvalidArgs
	}
	m.clock += by
	var left []at
	for _, a := range m.list {
		if a.deadline <= m.clock {
			due = append(due, a.key)
		} else {
			left = append(left, a)
		}
	}
	m.list = left
	return due, api.OK
}

// pair is timers and a model that are asked the same.
type pair struct {
	of *Timers
	m  *model
}

func newPair(t *testing.T, count int) *pair {
	t.Helper()
	return &pair{of: begin(t, count), m: &model{most: count}}
}

func (p *pair) set(t *testing.T, key, deadline int) {
	t.Helper()
	due, s := p.of.Set(key, deadline)
	if want, right := p.m.Set(key, deadline); due != want || s != right {
		t.Fatalf("Set(%d, %d): %t, %d; right is %t, %d", key, deadline, due, s, want, right)
	}
}

func (p *pair) cancel(t *testing.T, key int) {
	t.Helper()
	if got, want := p.of.Cancel(key), p.m.Cancel(key); got != want {
		t.Fatalf("Cancel(%d): %d; right is %d", key, got, want)
	}
}

func (p *pair) advance(t *testing.T, by int) {
	t.Helper()
	due, s := p.of.Advance(by)
	if want, right := p.m.Advance(by); !slices.Equal(due, want) || s != right {
		t.Fatalf("Advance(%d): %v, %d; right is %v, %d", by, due, s, want, right)
	}
	spoil(due)
}

// same holds all that is told of timers, and changes nothing, against what is right.
func (p *pair) same(t *testing.T) {
	t.Helper()
	now(t, p.of, p.m.clock)
	holds(t, p.of, p.m.list...)
	for key := -1; key < 12; key++ {
		if p.m.find(key) < 0 {
			none(t, p.of, key)
		}
	}
	if t.Failed() {
		t.FailNow()
	}
}

// small are the steps of which all short runs are gone through.
func small() []func(t *testing.T, p *pair) {
	return []func(t *testing.T, p *pair){
		func(t *testing.T, p *pair) { p.set(t, 1, 2) },
		func(t *testing.T, p *pair) { p.set(t, 1, 4) },
		func(t *testing.T, p *pair) { p.set(t, 2, 2) },
		func(t *testing.T, p *pair) { p.set(t, 2, 1) },
		func(t *testing.T, p *pair) { p.set(t, 3, 3) },
		func(t *testing.T, p *pair) { p.set(t, 3, 0) },
		func(t *testing.T, p *pair) { p.set(t, 1, api.MaxTime+1) },
		func(t *testing.T, p *pair) { p.cancel(t, 1) },
		func(t *testing.T, p *pair) { p.cancel(t, 2) },
		func(t *testing.T, p *pair) { p.advance(t, 1) },
		func(t *testing.T, p *pair) { p.advance(t, 2) },
		func(t *testing.T, p *pair) { p.advance(t, api.MaxTime-2) },
	}
}

// P14.1 to P14.3: all runs of five of the small steps, with too little room and with enough; at the end all that is left is due.
func TestAllShortRuns(t *testing.T) {
	steps := small()
	runs := 1
	for range 5 {
		runs *= len(steps)
	}
	for _, count := range []int{2, 3} {
		for run := range runs {
			p := newPair(t, count)
			left := run
			for range 5 {
				steps[left%len(steps)](t, p)
				left /= len(steps)
			}
			p.same(t)
			p.advance(t, api.MaxTime-p.m.clock)
			p.same(t)
		}
	}
}

// orders goes through all orders of the numbers from 0 to below n.
func orders(n int, visit func(order []int)) {
	order := make([]int, 0, n)
	var more func()
	more = func() {
		if len(order) == n {
			visit(order)
			return
		}
		for i := range n {
			if !slices.Contains(order, i) {
				order = append(order, i)
				more()
				order = order[:len(order)-1]
			}
		}
	}
	more()
}

// P14.1 to P14.3: in whatever order deadlines are set, each of them can be cancelled, or set to another time, and the others stay in order.
func TestAllOrders(t *testing.T) {
	for n := 1; n <= 6; n++ {
		orders(n, func(order []int) {
			for key := range n {
				for _, deadline := range []int{0, 1, 10*key + 15, 99} {
					p := newPair(t, n)
					for _, i := range order {
						p.set(t, i, 10*i+10)
					}
					if deadline == 0 {
						p.cancel(t, key)
					} else {
						p.set(t, key, deadline)
					}
					p.same(t)
					p.advance(t, 45)
					p.same(t)
				}
			}
		})
	}
}

// draws are numbers that hang on a seed alone.
type draws struct {
	seed uint64
}

// draw tells a number from 0 to below n.
func (d *draws) draw(n int) int {
	d.seed = d.seed*6364136223846793005 + 1442695040888963407
	return int(d.seed>>33) % n
}

// key tells a key, mostly one of some more than there is room for.
func (d *draws) key(count int) int {
	if d.draw(20) == 0 {
		strange := strangeKeys()
		return strange[d.draw(len(strange))]
	}
	return d.draw(count + count/2 + 1)
}

// deadline tells a deadline, mostly one soon behind the clock.
func (d *draws) deadline(clock, count int) int {
	switch d.draw(30) {
	case 0:
		late := tooLate()
		return late[d.draw(len(late))]
	case 1:
		return clock - d.draw(3)
	case 2:
		return api.MaxTime - d.draw(3)
	case 3:
		return least + d.draw(2)
	}
	return clock + 1 + d.draw(count+1)
}

// by tells how far the clock goes on: mostly not far, now and then to where it must not go.
func (d *draws) by(clock, count int) int {
	switch d.draw(40) {
	case 0:
		return -1 - d.draw(3)
	case 1:
		return api.MaxTime - clock + 1 + d.draw(2)
	case 2:
		return most - d.draw(2)
	}
	return d.draw(count/4 + 2)
}

// step asks both one thing.
func (d *draws) step(t *testing.T, p *pair) {
	t.Helper()
	count := p.m.most
	switch d.draw(8) {
	case 0, 1, 2, 3, 4:
		p.set(t, d.key(count), d.deadline(p.m.clock, count))
	case 5:
		p.cancel(t, d.key(count))
	case 6, 7:
		p.advance(t, d.by(p.m.clock, count))
	}
}

// P14.1 to P14.3: thousands of calls come to what they come to in one plain list, from the first times on and up to the last.
func TestAgainstModel(t *testing.T) {
	for i, count := range []int{0, 1, 2, 3, 5, 8, 17, 40, 100} {
		for seed := range 10 {
			d := draws{seed: uint64(31*i + seed + 1)}
			p := newPair(t, count)
			if seed%2 == 1 {
				p.advance(t, api.MaxTime-20*(count+1)*seed)
			}
			for range 1500 {
				d.step(t, p)
				p.same(t)
				if p.m.clock == api.MaxTime && d.draw(10) == 0 {
					p = newPair(t, count)
				}
			}
		}
	}
}

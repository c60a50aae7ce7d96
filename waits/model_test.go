package waits

import (
	"slices"
	"testing"

	"jacinth/api"
	"jacinth/signal"
)

// blocked is a thread that waits as the chapter's words have it.
type blocked struct {
	thread, deadline int
	items            []Item
}

// model is waits as the chapter's words have them, slow and plain: one list of all who wait, in the order in which they blocked.
type model struct {
	most int
	list []blocked
}

// find tells where in the list a thread stands, -1 if it doesn't.
func (m *model) find(thread int) int {
	return slices.IndexFunc(m.list, func(b blocked) bool { return b.thread == thread })
}

func (m *model) Block(thread, deadline int, items ...Item) api.Status {
	if thread < 0 || len(items) < 1 || len(items) > 8 {
		return -10
	}
	for _, i := range items {
		if i.Object < 1 {
			return -10
		}
	}
	if m.find(thread) >= 0 {
		return -26
	}
	if len(m.list) >= m.most {
		return -4
	}
	m.list = append(m.list, blocked{thread, deadline, slices.Clone(items)})
	return 0
}

func (m *model) Tell(object int, shows signal.Set) (woken []Woken) {
	var left []blocked
	for _, b := range m.list {
		at := slices.IndexFunc(b.items, func(i Item) bool { return i.Object == object && i.Mask&shows != 0 })
		if at < 0 {
			left = append(left, b)
		} else {
			woken = append(woken, Woken{b.thread, at, 0, shows})
		}
	}
	m.list = left
	return woken
}

func (m *model) Cancel(object int) (woken []Woken) {
	var left []blocked
	for _, b := range m.list {
		at := slices.IndexFunc(b.items, func(i Item) bool { return i.Object == object })
		if at < 0 {
			left = append(left, b)
		} else {
			woken = append(woken, Woken{b.thread, at, -23, 0})
		}
	}
	m.list = left
	return woken
}

// Expire takes the one that comes first out, again and again.
func (m *model) Expire(now int) (woken []Woken) {
	for {
		first := -1
		for i, b := range m.list {
			if b.deadline > now {
				continue
			}
			if first < 0 || b.deadline < m.list[first].deadline || b.deadline == m.list[first].deadline && b.thread < m.list[first].thread {
				first = i
			}
		}
		if first < 0 {
			return woken
		}
		woken = append(woken, Woken{m.list[first].thread, -1, -21, 0})
		m.list = slices.Delete(m.list, first, first+1)
	}
}

func (m *model) Forget(thread int) api.Status {
	i := m.find(thread)
	if i < 0 {
		return -25
	}
	m.list = slices.Delete(m.list, i, i+1)
	return 0
}

// pair is waits and a model that are asked the same.
type pair struct {
	w *Waits
	m *model
}

func newPair(t *testing.T, count int) *pair {
	return &pair{w: begin(t, count), m: &model{most: count}}
}

func (p *pair) block(t *testing.T, thread, deadline int, items ...Item) {
	want := p.m.Block(thread, deadline, items...)
	if got := p.w.Block(thread, deadline, items...); got != want {
		t.Helper()
		t.Fatalf("Block(%d, %d, %v): %d; right is %d", thread, deadline, items, got, want)
	}
	spoil(items, Item{1, -1})
}

// woken holds those who were woken against those that are right.
func (p *pair) woken(t *testing.T, call string, of, by int, got, want []Woken) {
	if !slices.Equal(got, want) {
		t.Fatalf("%s(%d, %d): %v; right is %v", call, of, by, got, want)
	}
	spoil(got, Woken{77, 77, 77, 77})
}

func (p *pair) tell(t *testing.T, object int, shows signal.Set) {
	p.woken(t, "Tell", object, int(shows), p.w.Tell(object, shows), p.m.Tell(object, shows))
}

func (p *pair) cancel(t *testing.T, object int) {
	p.woken(t, "Cancel", object, 0, p.w.Cancel(object), p.m.Cancel(object))
}

func (p *pair) expire(t *testing.T, now int) {
	p.woken(t, "Expire", now, 0, p.w.Expire(now), p.m.Expire(now))
}

func (p *pair) forget(t *testing.T, thread int) {
	if got, want := p.w.Forget(thread), p.m.Forget(thread); got != want {
		t.Helper()
		t.Fatalf("Forget(%d): %d; right is %d", thread, got, want)
	}
}

// same holds all that is told of who waits, and changes nothing, against what is right.
func (p *pair) same(t *testing.T) {
	if got := p.w.Count(); got != len(p.m.list) {
		t.Errorf("Count: %d; right is %d", got, len(p.m.list))
	}
	threads := p.w.Threads()
	if !slices.EqualFunc(threads, p.m.list, func(thread int, b blocked) bool { return thread == b.thread }) {
		t.Errorf("Threads: %v; right are those of %v", threads, p.m.list)
	}
	spoil(threads, 77)
	for thread := -1; thread < 12; thread++ {
		p.sameOf(t, thread)
	}
	p.sameOf(t, most)
	if t.Failed() {
		t.FailNow()
	}
}

// sameOf holds what is told of one thread against what is right.
func (p *pair) sameOf(t *testing.T, thread int) {
	i, deadline := p.m.find(thread), 0
	if i >= 0 {
		deadline = p.m.list[i].deadline
	}
	if got := p.w.Blocked(thread); got != (i >= 0) {
		t.Errorf("Blocked(%d): %t; right is %t", thread, got, i >= 0)
	}
	if got, ok := p.w.Deadline(thread); got != deadline || ok != (i >= 0) {
		t.Errorf("Deadline(%d): %d, %t; right is %d, %t", thread, got, ok, deadline, i >= 0)
	}
}

// end ends all objects, which must wake all that are left.
func (p *pair) end(t *testing.T, objects int) {
	for object := range objects + 1 {
		p.cancel(t, object)
	}
	p.same(t)
	if p.w.Count() != 0 {
		t.Helper()
		t.Fatalf("Count: %d; right is 0", p.w.Count())
	}
}

// small are the steps of which all short runs are gone through.
func small() []func(t *testing.T, p *pair) {
	return []func(t *testing.T, p *pair){
		func(t *testing.T, p *pair) { p.block(t, 2, 3, Item{1, 1}) },
		func(t *testing.T, p *pair) { p.block(t, 0, 3, Item{2, 1}, Item{1, 3}) },
		func(t *testing.T, p *pair) { p.block(t, 1, 2, Item{1, 2}, Item{1, 1}, Item{2, 2}) },
		func(t *testing.T, p *pair) { p.block(t, 1, 4, Item{2, 3}) },
		func(t *testing.T, p *pair) { p.block(t, 3, 2, Item{1, 0}, Item{0, 1}) },
		func(t *testing.T, p *pair) { p.tell(t, 1, 1) },
		func(t *testing.T, p *pair) { p.tell(t, 1, 2) },
		func(t *testing.T, p *pair) { p.tell(t, 2, 3) },
		func(t *testing.T, p *pair) { p.tell(t, 0, -1) },
		func(t *testing.T, p *pair) { p.expire(t, 2) },
		func(t *testing.T, p *pair) { p.expire(t, 3) },
		func(t *testing.T, p *pair) { p.cancel(t, 1) },
		func(t *testing.T, p *pair) { p.cancel(t, 2) },
		func(t *testing.T, p *pair) { p.forget(t, 0) },
		func(t *testing.T, p *pair) { p.forget(t, 1) },
	}
}

// P16.1 to P16.3: all runs of five of the small steps, with too little room and with enough; at the end nobody is left.
func TestAllShortRuns(t *testing.T) {
	steps := small()
	runs := 1
	for range 5 {
		runs *= len(steps)
	}
	for _, count := range []int{2, 3} {
		for run := range runs {
			p := newPair(t, count)
			left := run
			for range 5 {
				steps[left%len(steps)](t, p)
				left /= len(steps)
			}
			p.same(t)
			p.end(t, 2)
		}
	}
}

// draws are numbers that hang on a seed alone.
type draws struct {
	seed uint64
}

// draw tells a number from 0 to below n.
func (d *draws) draw(n int) int {
	d.seed = d.seed*6364136223846793005 + 1442695040888963407
	return int(d.seed>>33) % n
}

// thread tells a thread, mostly one of some more than there is room for.
func (d *draws) thread(count int) int {
	if d.draw(20) == 0 {
		numbers := slices.Concat(below0(), strangeThreads())
		return numbers[d.draw(len(numbers))]
	}
	return d.draw(count + count/2 + 1)
}

// object tells an object, mostly one of so many.
func (d *draws) object(objects int) int {
	if d.draw(60) == 0 {
		numbers := append(noObjects(), most)
		return numbers[d.draw(len(numbers))]
	}
	return 1 + d.draw(objects)
}

// items tells items, mostly not too many of them.
func (d *draws) items(objects int) []Item {
	count := 1 + d.draw(8)
	if d.draw(20) == 0 {
		count = d.draw(12)
	}
	var items []Item
	for range count {
		items = append(items, Item{d.object(objects), signal.Set(d.draw(8))})
	}
	return items
}

// time tells a deadline or a time, mostly a small one.
func (d *draws) time(count int) int {
	if d.draw(40) == 0 {
		numbers := strange()
		return numbers[d.draw(len(numbers))]
	}
	return d.draw(count + 4)
}

// step asks both one thing.
func (d *draws) step(t *testing.T, p *pair, objects int) {
	t.Helper()
	count := p.m.most
	switch d.draw(16) {
	default:
		p.block(t, d.thread(count), d.time(count), d.items(objects)...)
	case 10, 11, 12:
		p.tell(t, d.object(objects), signal.Set(d.draw(8)))
	case 13:
		p.expire(t, d.time(count)/3)
	case 14:
		p.cancel(t, d.object(objects))
	case 15:
		p.forget(t, d.thread(count))
	}
}

// P16.1 to P16.3: thousands of calls come to what they come to in one plain list.
func TestAgainstModel(t *testing.T) {
	for i, count := range []int{0, 1, 2, 3, 5, 8, 17, 40, 100} {
		for seed := range 10 {
			d := draws{seed: uint64(31*i + seed + 1)}
			objects := []int{1, 2, 5, 20, 100}[seed%5]
			p := newPair(t, count)
			for range 1500 {
				d.step(t, p, objects)
				p.same(t)
			}
			p.cancel(t, most)
			p.end(t, objects)
		}
	}
}

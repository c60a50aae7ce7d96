package object

import (
	"slices"
	"testing"

	"jacinth/api"
	"jacinth/signal"
)

// thing is an object as the chapter's words have it.
type thing struct {
	kind, peer, refs, pins int
	shows                  signal.Set
	had, ended             bool
	list                   []int
}

// model is objects as the chapter's words have them, slow and plain: all that were made, by their numbers, 0 is none.
type model struct {
	most   int
	things []thing
}

func newModel(count int) *model {
	return &model{most: count, things: make([]thing, 1)}
}

func (m *model) there(ids ...int) bool {
	for _, id := range ids {
		if id < 1 || id >= len(m.things) || m.things[id].ended {
			return false
		}
	}
	return true
}

func often(list []int, id int) (times int) {
	for _, x := range list {
		if x == id {
			times++
		}
	}
	return times
}

// carried tells in how many places the object is carried; one that ended may not have let go of all yet.
func (m *model) carried(id int) (times int) {
	for _, x := range m.things {
		times += often(x.list, id)
	}
	return times
}

func (m *model) IDs() (ids []int) {
	for id := range m.things {
		if m.there(id) {
			ids = append(ids, id)
		}
	}
	return ids
}

func (m *model) Make(kind int) (int, api.Status) {
	if kind < 1 || kind > 11 {
		return 0, -10
	}
	if len(m.IDs()) >= m.most {
		return 0, -4
	}
	m.things = append(m.things, thing{kind: kind, refs: 1, shows: signal.First(kind)})
	return len(m.things) - 1, 0
}

func (m *model) Pair(a, b int) api.Status {
	if !m.there(a, b) {
		return -25
	}
	if a == b {
		return -10
	}
	x, y := &m.things[a], &m.things[b]
	if x.peer != 0 || x.had || y.peer != 0 || y.had {
		return -20
	}
	x.peer, x.had, y.peer, y.had = b, true, a, true
	return 0
}

// change lets an object show something else.
func (m *model) change(id int, clear, set signal.Set) (told []Event) {
	x := &m.things[id]
	if shows := x.shows&^clear | set; shows != x.shows {
		x.shows = shows
		told = append(told, Event{id, false, shows})
	}
	return told
}

// waiting adds the object to those that wait to end, if nothing holds it.
func (m *model) waiting(wait []int, id int) []int {
	if m.things[id].refs == 0 && m.things[id].pins == 0 && m.carried(id) == 0 {
		wait = append(wait, id)
	}
	return wait
}

func (m *model) end(wait []int) (told []Event) {
	for len(wait) > 0 {
		id := wait[0]
		wait = wait[1:]
		x := &m.things[id]
		x.ended = true
		told = append(told, Event{id, true, 0})
		if x.peer != 0 && m.there(x.peer) {
			m.things[x.peer].peer = 0
			told = append(told, m.change(x.peer, 2, 4)...)
		}
		for len(x.list) > 0 {
			first := x.list[0]
			x.list = slices.Delete(x.list, 0, 1)
			wait = m.waiting(wait, first)
		}
	}
	return told
}

// few tells whether one of the objects has fewer references than it stands there.
func (m *model) few(ids []int) bool {
	return slices.ContainsFunc(ids, func(id int) bool { return m.things[id].refs < often(ids, id) })
}

func (m *model) Ref(id int) api.Status {
	if !m.there(id) {
		return -25
	}
	m.things[id].refs++
	return 0
}

func (m *model) Unref(ids ...int) ([]Event, api.Status) {
	if !m.there(ids...) {
		return nil, -25
	}
	if m.few(ids) {
		return nil, -20
	}
	var wait []int
	for _, id := range ids {
		m.things[id].refs--
		wait = m.waiting(wait, id)
	}
	return m.end(wait), 0
}

func (m *model) Pin(id int) api.Status {
	if !m.there(id) {
		return -25
	}
	m.things[id].pins++
	return 0
}

func (m *model) Unpin(id int) ([]Event, api.Status) {
	if !m.there(id) {
		return nil, -25
	}
	if m.things[id].pins == 0 {
		return nil, -20
	}
	m.things[id].pins--
	return m.end(m.waiting(nil, id)), 0
}

func (m *model) Carry(holder int, ids ...int) api.Status {
	if !m.there(holder) || !m.there(ids...) {
		return -25
	}
	if m.few(ids) {
		return -20
	}
	if often(ids, holder) > 0 {
		return -10
	}
	for _, id := range ids {
		m.things[id].refs--
		m.things[holder].list = append(m.things[holder].list, id)
	}
	return 0
}

func (m *model) Hand(holder int, ids ...int) api.Status {
	if !m.there(holder) || !m.there(ids...) {
		return -25
	}
	h := &m.things[holder]
	for _, id := range ids {
		if often(h.list, id) < often(ids, id) {
			return -20
		}
	}
	for _, id := range ids {
		at := slices.Index(h.list, id)
		h.list = slices.Delete(h.list, at, at+1)
		m.things[id].refs++
	}
	return 0
}

func (m *model) Show(id int, clear, set signal.Set) ([]Event, api.Status) {
	if !m.there(id) {
		return nil, -25
	}
	return m.change(id, clear, set), 0
}

func (m *model) Info(id int) (Info, bool) {
	if !m.there(id) {
		return Info{}, false
	}
	x := m.things[id]
	return Info{x.kind, x.peer, x.refs, x.pins, m.carried(id), len(x.list), x.shows}, true
}

// pair is objects and a model that are asked the same.
type pair struct {
	o *Objects
	m *model
}

func newPair(t *testing.T, count int) *pair {
	return &pair{o: begin(t, count), m: newModel(count)}
}

func (p *pair) make(t *testing.T, kind int) {
	want, right := p.m.Make(kind)
	if got, s := p.o.Make(kind); got != want || s != right {
		t.Fatalf("Make(%d): %d, %d; right is %d, %d", kind, got, s, want, right)
	}
}

// held holds a status against the one that is right.
func (p *pair) held(t *testing.T, call string, id int, ids []int, got, want api.Status) {
	if got != want {
		t.Fatalf("%s(%d, %v): %d; right is %d", call, id, ids, got, want)
	}
	spoil(ids, -77)
}

// told holds events against those that are right.
func (p *pair) told(t *testing.T, call string, ids []int, got []Event, s api.Status, want []Event, right api.Status) {
	if !slices.Equal(got, want) || s != right {
		t.Fatalf("%s(%v): %v, %d; right is %v, %d", call, ids, got, s, want, right)
	}
	spoil(got, Event{77, true, 77})
	spoil(ids, -77)
}

func (p *pair) pair(t *testing.T, a, b int) {
	p.held(t, "Pair", a, []int{b}, p.o.Pair(a, b), p.m.Pair(a, b))
}

func (p *pair) ref(t *testing.T, id int) {
	p.held(t, "Ref", id, nil, p.o.Ref(id), p.m.Ref(id))
}

func (p *pair) pin(t *testing.T, id int) {
	p.held(t, "Pin", id, nil, p.o.Pin(id), p.m.Pin(id))
}

func (p *pair) carry(t *testing.T, holder int, ids ...int) {
	want := p.m.Carry(holder, ids...)
	p.held(t, "Carry", holder, ids, p.o.Carry(holder, ids...), want)
}

func (p *pair) hand(t *testing.T, holder int, ids ...int) {
	want := p.m.Hand(holder, ids...)
	p.held(t, "Hand", holder, ids, p.o.Hand(holder, ids...), want)
}

func (p *pair) unref(t *testing.T, ids ...int) {
	want, right := p.m.Unref(ids...)
	got, s := p.o.Unref(ids...)
	p.told(t, "Unref", ids, got, s, want, right)
}

func (p *pair) unpin(t *testing.T, id int) {
	want, right := p.m.Unpin(id)
	got, s := p.o.Unpin(id)
	p.told(t, "Unpin", []int{id}, got, s, want, right)
}

func (p *pair) show(t *testing.T, id int, clear, set signal.Set) {
	want, right := p.m.Show(id, clear, set)
	got, s := p.o.Show(id, clear, set)
	p.told(t, "Show", []int{id, int(clear), int(set)}, got, s, want, right)
}

// same holds all that is told of objects, and changes nothing, against what is right.
func (p *pair) same(t *testing.T) {
	ids := p.o.IDs()
	if want := p.m.IDs(); !slices.Equal(ids, want) || p.o.Count() != len(want) {
		t.Fatalf("IDs, Count: %v, %d; right is %v", ids, p.o.Count(), want)
	}
	for id := range len(p.m.things) + 1 {
		got, ok := p.o.Info(id)
		want, right := p.m.Info(id)
		if got != want || ok != right {
			t.Fatalf("Info(%d): %v, %t; right is %v, %t", id, got, ok, want, right)
		}
		// P18.6: what is there is held.
		if ok && got.Refs+got.Pins+got.Carried == 0 {
			t.Fatalf("Info(%d): %v, though nothing holds it", id, got)
		}
		list := p.o.Carried(id)
		if ok && !slices.Equal(list, p.m.things[id].list) || !ok && len(list) > 0 {
			t.Fatalf("Carried(%d): %v", id, list)
		}
		spoil(list, -77)
	}
	spoil(ids, -77)
}

// small are the steps of which all short runs are gone through.
func small() []func(t *testing.T, p *pair) {
	return []func(t *testing.T, p *pair){
		func(t *testing.T, p *pair) { p.make(t, 7) },
		func(t *testing.T, p *pair) { p.ref(t, 3) },
		func(t *testing.T, p *pair) { p.pair(t, 3, 4) },
		func(t *testing.T, p *pair) { p.pin(t, 2) },
		func(t *testing.T, p *pair) { p.unpin(t, 2) },
		func(t *testing.T, p *pair) { p.carry(t, 1, 3, 2) },
		func(t *testing.T, p *pair) { p.carry(t, 2, 1) },
		func(t *testing.T, p *pair) { p.carry(t, 2, 4, 3) },
		func(t *testing.T, p *pair) { p.carry(t, 3, 1, 4) },
		func(t *testing.T, p *pair) { p.hand(t, 2, 3) },
		func(t *testing.T, p *pair) { p.hand(t, 1, 2) },
		func(t *testing.T, p *pair) { p.unref(t, 1) },
		func(t *testing.T, p *pair) { p.unref(t, 3, 4, 3) },
		func(t *testing.T, p *pair) { p.unref(t, 2, 1) },
		func(t *testing.T, p *pair) { p.show(t, 1, 2, 12) },
	}
}

// P18.1 to P18.6: all runs of five of the small steps behind a beginning; at the end all references are gone that can be.
func TestAllShortRuns(t *testing.T) {
	steps := small()
	runs := 1
	for range 5 {
		runs *= len(steps)
	}
	for run := range runs {
		p := newPair(t, 5)
		for _, kind := range []int{4, 4, 8, 11} {
			p.make(t, kind)
		}
		p.pair(t, 1, 2)
		left := run
		for range 5 {
			steps[left%len(steps)](t, p)
			left /= len(steps)
		}
		p.same(t)
		for _, id := range []int{2, 1, 4, 3} {
			p.unref(t, id)
			p.unpin(t, id)
		}
		p.same(t)
	}
}

// draws are numbers that hang on a seed alone.
type draws struct {
	seed uint64
}

// draw tells a number from 0 to below n.
func (d *draws) draw(n int) int {
	d.seed = d.seed*6364136223846793005 + 1442695040888963407
	return int(d.seed>>33) % n
}

// one tells an object, mostly one that is there.
func (d *draws) one(p *pair) int {
	if d.draw(80) == 0 {
		numbers := append(noObjects(), len(p.m.things))
		return numbers[d.draw(len(numbers))]
	}
	if ids := p.m.IDs(); len(ids) > 0 && d.draw(40) != 0 {
		return ids[d.draw(len(ids))]
	}
	return d.draw(len(p.m.things))
}

// some tells a few objects, some of them several times.
func (d *draws) some(p *pair) (ids []int) {
	for range d.draw(5) {
		ids = append(ids, d.one(p))
		if d.draw(3) == 0 {
			ids = append(ids, ids[d.draw(len(ids))])
		}
	}
	return ids
}

// cargo tells some of what the holder carries, mostly.
func (d *draws) cargo(p *pair, holder int) (ids []int) {
	if !p.m.there(holder) || d.draw(6) == 0 {
		return d.some(p)
	}
	for _, id := range p.m.things[holder].list {
		if d.draw(2) == 0 {
			ids = append(ids, id)
		}
	}
	if d.draw(2) == 0 {
		slices.Reverse(ids)
	}
	return ids
}

// bits tells a set of signals, mostly of few bits.
func (d *draws) bits() signal.Set {
	if d.draw(20) == 0 {
		return []signal.Set{least, most, -1, 1 << 20}[d.draw(4)]
	}
	return signal.Set(1<<d.draw(17) | 1<<d.draw(4)&6)
}

// step asks both one thing.
func (d *draws) step(t *testing.T, p *pair, ends int) {
	switch d.draw(20) {
	case 0, 1, 2:
		p.make(t, d.draw(12))
	case 3:
		p.pair(t, d.one(p), d.one(p))
	case 4, 5, 6:
		p.ref(t, d.one(p))
	case 7:
		p.pin(t, d.one(p))
	case 8, 9:
		p.unpin(t, d.one(p))
	case 10, 11, 12:
		p.carry(t, d.one(p), d.one(p))
	case 13:
		p.carry(t, d.one(p), d.some(p)...)
	case 14:
		holder := d.one(p)
		p.hand(t, holder, d.cargo(p, holder)...)
	case 15:
		p.show(t, d.one(p), d.bits(), d.bits())
	case 16:
		p.unref(t, d.some(p)...)
	default:
		if d.draw(ends) == 0 {
			p.unref(t, d.one(p))
		}
	}
}

// P18.1 to P18.6: thousands of calls come to what they come to as the chapter says it, word for word.
func TestAgainstModel(t *testing.T) {
	for i, count := range []int{0, 1, 2, 3, 5, 8, 13, 25} {
		for seed := range 12 {
			d := draws{seed: uint64(31*i + seed + 1)}
			p := newPair(t, count)
			for n := range 600 {
				d.step(t, p, 1+seed%3)
				if n%5 == 0 {
					p.same(t)
				}
				// What leaked takes all the room by and by.
				if n%150 == 149 {
					p = newPair(t, count)
				}
			}
			p.same(t)
		}
	}
}

package port

import (
	"slices"
	"testing"

	"jacinth/api"
	"jacinth/signal"
)

// waiting is a watch as the chapter's words have it.
type waiting struct {
	object, key int
	mask        signal.Set
}

// model is a port as the chapter's words have it, slow and plain: one list of all packets, and one of all watches.
type model struct {
	depth, most int
	packets     []Packet
	watches     []waiting
}

// users tells how many of the packets users queued.
func (m *model) users() int {
	n := 0
	for _, k := range m.packets {
		if k.Source == 0 {
			n++
		}
	}
	return n
}

func (m *model) Queue(key, value int) api.Status {
	if m.users() >= m.depth {
		return api.ErrShouldWait
	}
	m.packets = append(m.packets, Packet{key, 0, value})
	return api.OK
}

func (m *model) Take() (Packet, api.Status) {
	if len(m.packets) == 0 {
		return Packet{}, api.ErrShouldWait
	}
	first := m.packets[0]
	m.packets = slices.Delete(m.packets, 0, 1)
	return first, api.OK
}

func (m *model) Watch(object, key int, mask signal.Set) api.Status {
	if object < 1 || mask == 0 {
		return api.ErrInvalidArgs
	}
	if len(m.watches)+len(m.packets)-m.users() >= m.most {
		return api.ErrNoMemory
	}
	m.watches = append(m.watches, waiting{object, key, mask})
	return api.OK
}

func (m *model) Tell(object int, shows signal.Set) int {
	n := 0
	for i := 0; i < len(m.watches); {
		w := m.watches[i]
		if w.object != object || w.mask&shows == 0 {
			i++
			continue
		}
		m.packets = append(m.packets, Packet{w.key, object, int(shows)})
		m.watches = slices.Delete(m.watches, i, i+1)
		n++
	}
	return n
}

func (m *model) Cancel(object, key int) api.Status {
	s := api.ErrNotFound
	for i := len(m.watches) - 1; i >= 0; i-- {
		if w := m.watches[i]; w.object == object && w.key == key {
			m.watches = slices.Delete(m.watches, i, i+1)
			s = api.OK
		}
	}
	for i := len(m.packets) - 1; i >= 0; i-- {
		if k := m.packets[i]; k.Source == object && k.Source > 0 && k.Key == key {
			m.packets = slices.Delete(m.packets, i, i+1)
			s = api.OK
		}
	}
	return s
}

func (m *model) Forget(object int) int {
	n := 0
	for i := len(m.watches) - 1; i >= 0; i-- {
		if m.watches[i].object == object {
			m.watches = slices.Delete(m.watches, i, i+1)
			n++
		}
	}
	return n
}

// pair is a port and a model that are asked the same.
type pair struct {
	p *Port
	m *model
}

func newPair(t *testing.T, depth, count int) *pair {
	t.Helper()
	return &pair{p: begin(t, depth, count), m: &model{depth: depth, most: count}}
}

func (b *pair) queue(t *testing.T, key, value int) {
	t.Helper()
	queue(t, b.p, key, value, b.m.Queue(key, value))
}

func (b *pair) take(t *testing.T) {
	t.Helper()
	if want, s := b.m.Take(); s == api.OK {
		take(t, b.p, want)
	} else {
		noTake(t, b.p)
	}
}

func (b *pair) watch(t *testing.T, object, key int, mask signal.Set) {
	t.Helper()
	watches(t, b.p, object, key, mask, b.m.Watch(object, key, mask))
}

func (b *pair) tell(t *testing.T, object int, shows signal.Set) {
	t.Helper()
	tell(t, b.p, object, shows, b.m.Tell(object, shows))
}

func (b *pair) cancel(t *testing.T, object, key int) {
	t.Helper()
	cancel(t, b.p, object, key, b.m.Cancel(object, key))
}

func (b *pair) forget(t *testing.T, object int) {
	t.Helper()
	forget(t, b.p, object, b.m.Forget(object))
}

// same holds all that is told of a port, and changes nothing, against what is right.
func (b *pair) same(t *testing.T) {
	t.Helper()
	packets(t, b.p, b.m.packets...)
	of := make([]int, 8)
	for _, w := range b.m.watches {
		of[w.object-1]++
	}
	watched(t, b.p, of...)
	if t.Failed() {
		t.FailNow()
	}
}

// end takes all packets out, lets all watches fire, and takes these packets out.
func (b *pair) end(t *testing.T) {
	t.Helper()
	for range 2 {
		b.same(t)
		for len(b.m.packets) > 0 {
			b.take(t)
		}
		for object := 1; object <= 8; object++ {
			b.tell(t, object, -1)
		}
	}
	b.same(t)
}

// small are the steps of which all short runs are gone through.
func small() []func(t *testing.T, b *pair) {
	return []func(t *testing.T, b *pair){
		func(t *testing.T, b *pair) { b.queue(t, 1, 5) },
		func(t *testing.T, b *pair) { b.queue(t, 2, 6) },
		func(t *testing.T, b *pair) { b.take(t) },
		func(t *testing.T, b *pair) { b.watch(t, 1, 1, 1) },
		func(t *testing.T, b *pair) { b.watch(t, 1, 2, 3) },
		func(t *testing.T, b *pair) { b.watch(t, 2, 1, 2) },
		func(t *testing.T, b *pair) { b.tell(t, 1, 1) },
		func(t *testing.T, b *pair) { b.tell(t, 1, 6) },
		func(t *testing.T, b *pair) { b.cancel(t, 1, 1) },
		func(t *testing.T, b *pair) { b.cancel(t, 0, 2) },
		func(t *testing.T, b *pair) { b.forget(t, 1) },
	}
}

// P15.1 to P15.4: all runs of five of the small steps, with too little room and with enough; at the end all is taken out.
func TestAllShortRuns(t *testing.T) {
	steps := small()
	runs := 1
	for range 5 {
		runs *= len(steps)
	}
	for _, room := range [][2]int{{1, 1}, {2, 2}} {
		for run := range runs {
			b := newPair(t, room[0], room[1])
			left := run
			for range 5 {
				steps[left%len(steps)](t, b)
				left /= len(steps)
			}
			b.end(t)
		}
	}
}

// draws are numbers that hang on a seed alone.
type draws struct {
	seed uint64
}

// draw tells a number from 0 to below n.
func (d *draws) draw(n int) int {
	d.seed = d.seed*6364136223846793005 + 1442695040888963407
	return int(d.seed>>33) % n
}

// object tells an object from 1 to 8, or now and then what is none.
func (d *draws) object() int {
	if d.draw(15) == 0 {
		none := noObjects()
		return none[d.draw(len(none))]
	}
	return 1 + d.draw(1+d.draw(8))
}

// number tells a key or a value, mostly one of few.
func (d *draws) number() int {
	if d.draw(20) == 0 {
		all := strange()
		return all[d.draw(len(all))]
	}
	return d.draw(5)
}

// signals tells signals: mostly few, now and then none, or strange ones.
func (d *draws) signals() signal.Set {
	if d.draw(20) == 0 {
		return signal.Set(d.number())
	}
	return 1<<d.draw(6) | 1<<d.draw(6)
}

// step asks both one thing; the longer it fills, the fuller the port is.
func (d *draws) step(t *testing.T, b *pair, fills bool) {
	t.Helper()
	more := 0
	if fills {
		more = 6
	}
	switch d.draw(8 + more) {
	case 0:
		b.queue(t, d.number(), d.number())
	case 1, 2:
		b.take(t)
	case 3:
		b.watch(t, d.object(), d.number(), d.signals())
	case 4:
		b.cancel(t, d.object(), d.number())
	case 5:
		b.tell(t, d.object(), d.signals())
	case 6:
		b.cancel(t, 0, d.number())
	case 7:
		b.forget(t, d.object())
	case 8, 9:
		b.queue(t, d.number(), d.number())
	default:
		b.watch(t, d.object(), d.number(), d.signals())
	}
}

// P15.1 to P15.4: thousands of calls come to what they come to in plain lists.
func TestAgainstModel(t *testing.T) {
	rooms := [][2]int{{1, 0}, {1, 1}, {1, 5}, {5, 1}, {2, 2}, {3, 8}, {8, 3}, {20, 20}, {40, 100}}
	for i, room := range rooms {
		for seed := range 10 {
			d := draws{seed: uint64(31*i + seed + 1)}
			b := newPair(t, room[0], room[1])
			for step := range 1500 {
				d.step(t, b, step/200%2 == 0)
				b.same(t)
			}
			b.end(t)
		}
	}
}

// P15.1, P15.2: at the greatest limits, just so many packets and watches have room; all is told in order.
func TestMost(t *testing.T) {
	p := begin(t, api.MaxSlots, api.MaxSlots)
	var want []Packet
	for i := range api.MaxSlots {
		queue(t, p, i, -i, api.OK)
		want = append(want, Packet{i, 0, -i})
		watches(t, p, 1+i%2, i, 1, api.OK)
	}
	queue(t, p, 1, 1, api.ErrShouldWait)
	watches(t, p, 1, 1, 1, api.ErrNoMemory)
	watched(t, p, api.MaxSlots/2, api.MaxSlots/2)
	tell(t, p, 2, 5, api.MaxSlots/2)
	watches(t, p, 1, 1, 1, api.ErrNoMemory)
	tell(t, p, 1, 7, api.MaxSlots/2)
	watched(t, p)
	for i := 1; i < api.MaxSlots; i += 2 {
		want = append(want, Packet{i, 2, 5})
	}
	for i := 0; i < api.MaxSlots; i += 2 {
		want = append(want, Packet{i, 1, 7})
	}
	queue(t, p, 1, 1, api.ErrShouldWait)
	watches(t, p, 1, 1, 1, api.ErrNoMemory)
	if p.Len() != 2*api.MaxSlots || !slices.Equal(p.Packets(), want) {
		t.Errorf("Packets: not those that are right")
	}
	for _, k := range want {
		take(t, p, k)
	}
	noTake(t, p)
	watches(t, p, most, 1, 1, api.OK)
	queue(t, p, 1, 1, api.OK)
}

// P15.2: as many objects as there may be watches can each have one; those that were forgotten leave their places.
func TestManyObjects(t *testing.T) {
	p := begin(t, 1, api.MaxSlots)
	for object := 1; object <= api.MaxSlots; object++ {
		watches(t, p, object, -object, 8, api.OK)
	}
	watches(t, p, api.MaxSlots+1, 0, 8, api.ErrNoMemory)
	for object := 2; object <= api.MaxSlots; object += 2 {
		forget(t, p, object, 1)
	}
	if p.Watches() != api.MaxSlots/2 {
		t.Errorf("Watches: %d", p.Watches())
	}
	for object := api.MaxSlots; object >= 1; object-- {
		tell(t, p, object, 8, object%2)
	}
	for object := api.MaxSlots - 1; object >= 1; object -= 2 {
		take(t, p, Packet{-object, object, 8})
	}
	noTake(t, p)
	watched(t, p)
}

// spoil changes all of a list, its spare room too.
func spoil(list []Packet) {
	list = list[:cap(list)]
	for i := range list {
		list[i] = Packet{77, 77, 77}
	}
}

// P15.3: Packets tells new memory: whoever changes it changes nothing else.
func TestTold(t *testing.T) {
	p := begin(t, 9, 9)
	spoil(p.Packets())
	for i := range 5 {
		queue(t, p, i, i, api.OK)
	}
	take(t, p, Packet{0, 0, 0})
	watches(t, p, 1, 8, 1, api.OK)
	tell(t, p, 1, 1, 1)
	want := []Packet{{1, 0, 1}, {2, 0, 2}, {3, 0, 3}, {4, 0, 4}, {8, 1, 1}}
	first := p.Packets()
	second := p.Packets()
	spoil(first)
	if !slices.Equal(second, want) {
		t.Errorf("Packets: %v; right is %v", second, want)
	}
	spoil(second)
	packets(t, p, want...)
	third := p.Packets()
	queue(t, p, 6, 6, api.OK)
	cancel(t, p, 1, 8, api.OK)
	take(t, p, Packet{1, 0, 1})
	if !slices.Equal(third, want) {
		t.Errorf("Packets: %v; right is %v", third, want)
	}
	spoil(third)
	packets(t, p, Packet{2, 0, 2}, Packet{3, 0, 3}, Packet{4, 0, 4}, Packet{6, 0, 6})
}

// P15.1 to P15.3: two ports have nothing in common.
func TestApart(t *testing.T) {
	a, b := begin(t, 1, 1), begin(t, 1, 1)
	watches(t, a, 1, 10, 1, api.OK)
	watches(t, b, 1, 11, 1, api.OK)
	queue(t, a, 1, 1, api.OK)
	tell(t, b, 1, 1, 1)
	watched(t, a, 1)
	watched(t, b)
	packets(t, a, Packet{1, 0, 1})
	packets(t, b, Packet{11, 1, 1})
	cancel(t, b, 1, 10, api.ErrNotFound)
	forget(t, a, 1, 1)
	packets(t, b, Packet{11, 1, 1})
}

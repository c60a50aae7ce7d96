package object

import (
	"slices"
	"testing"

	"jacinth/api"
	"jacinth/signal"
)

const (
	most  = 1<<63 - 1
	least = -1 << 63
)

// noObjects are numbers that no object has, where fewer than 1000 were made.
func noObjects() []int {
	return []int{least, least + 1, -1<<32 + 1, -1 << 32, -2, -1, 0, 1000, api.MaxSlots, api.MaxSlots + 1, 1 << 32, 1<<32 + 1, most - 1, most}
}

// begin makes no objects yet, of which there may be so many.
func begin(t *testing.T, count int) *Objects {
	t.Helper()
	o := New(count)
	if o == nil {
		t.Fatalf("New(%d): nil", count)
	}
	return o
}

// with makes objects of these kinds, from 1 on.
func with(t *testing.T, kinds ...int) *Objects {
	t.Helper()
	o := begin(t, 100)
	for i, kind := range kinds {
		made(t, o, kind, i+1)
	}
	return o
}

// status holds a status against the one that is right.
func status(t *testing.T, want, got api.Status) {
	t.Helper()
	if got != want {
		t.Errorf("%d; right is %d", got, want)
	}
}

// made makes an object, which there must be, with this number.
func made(t *testing.T, o *Objects, kind, want int) {
	t.Helper()
	if id, s := o.Make(kind); id != want || s != api.OK {
		t.Errorf("Make(%d): %d, %d; right is %d, 0", kind, id, s, want)
	}
}

// notMade asks for an object that must be refused.
func notMade(t *testing.T, o *Objects, kind int, want api.Status) {
	t.Helper()
	if id, s := o.Make(kind); id != 0 || s != want {
		t.Errorf("Make(%d): %d, %d; right is 0, %d", kind, id, s, want)
	}
}

// ended is the event of an object that ended.
func ended(id int) Event { return Event{id, true, 0} }

// shown is the event of what an object shows now.
func shown(id int, shows signal.Set) Event { return Event{id, false, shows} }

// events holds events against those that are right.
func events(t *testing.T, call string, got []Event, s api.Status, want ...Event) {
	t.Helper()
	if !slices.Equal(got, want) || s != api.OK {
		t.Errorf("%s: %v, %d; right is %v, 0", call, got, s, want)
	}
}

// refused holds an answer against a status that is not OK.
func refused(t *testing.T, call string, got []Event, s, want api.Status) {
	t.Helper()
	if len(got) != 0 || s != want {
		t.Errorf("%s: %v, %d; right is none, %d", call, got, s, want)
	}
}

// unref takes references, by which just this must become of objects.
func unref(t *testing.T, o *Objects, ids []int, want ...Event) {
	t.Helper()
	got, s := o.Unref(ids...)
	events(t, "Unref", got, s, want...)
}

// notUnref takes references, which must be refused.
func notUnref(t *testing.T, o *Objects, want api.Status, ids ...int) {
	t.Helper()
	got, s := o.Unref(ids...)
	refused(t, "Unref", got, s, want)
}

// unpin takes a pin, by which just this must become of objects.
func unpin(t *testing.T, o *Objects, id int, want ...Event) {
	t.Helper()
	got, s := o.Unpin(id)
	events(t, "Unpin", got, s, want...)
}

// notUnpin takes a pin, which must be refused.
func notUnpin(t *testing.T, o *Objects, want api.Status, id int) {
	t.Helper()
	got, s := o.Unpin(id)
	refused(t, "Unpin", got, s, want)
}

// show lets an object show something, by which just this must become of objects.
func show(t *testing.T, o *Objects, id int, clear, set signal.Set, want ...Event) {
	t.Helper()
	got, s := o.Show(id, clear, set)
	events(t, "Show", got, s, want...)
}

// info holds what is told of an object against what is right.
func info(t *testing.T, o *Objects, id int, want Info) {
	t.Helper()
	if got, ok := o.Info(id); got != want || !ok {
		t.Errorf("Info(%d): %v, %t; right is %v, true", id, got, ok, want)
	}
}

// carried holds what an object carries against what is right.
func carried(t *testing.T, o *Objects, holder int, want ...int) {
	t.Helper()
	if got := o.Carried(holder); !slices.Equal(got, want) {
		t.Errorf("Carried(%d): %v; right is %v", holder, got, want)
	}
	if got, ok := o.Info(holder); !ok || got.Carries != len(want) {
		t.Errorf("Info(%d): %v; right is that it carries %d", holder, got, len(want))
	}
}

// there holds the objects that have not ended against those that are right.
func there(t *testing.T, o *Objects, want ...int) {
	t.Helper()
	if got := o.IDs(); !slices.Equal(got, want) || o.Count() != len(want) {
		t.Errorf("IDs, Count: %v, %d; right is %v", got, o.Count(), want)
	}
}

// P18.1: there may be 0 to MaxSlots objects, or there are no such ones.
func TestNew(t *testing.T) {
	for _, count := range []int{least, least + 1, -1 << 32, -1<<32 + 1, -api.MaxSlots, -1, api.MaxSlots + 1, 1 << 32, 1<<32 + 1, most} {
		if New(count) != nil {
			t.Errorf("New(%d): not nil", count)
		}
	}
	for _, count := range []int{0, 1, 2, api.MaxSlots - 1, api.MaxSlots} {
		o := begin(t, count)
		there(t, o)
		for id := range count {
			if got, s := o.Make(api.Event); got != id+1 || s != api.OK {
				t.Fatalf("Make: %d, %d; right is %d, 0", got, s, id+1)
			}
		}
		notMade(t, o, api.Event, api.ErrNoMemory)
		if o.Count() != count {
			t.Errorf("Count: %d; right is %d", o.Count(), count)
		}
	}
}

// P18.2, P18.3: the example of the chapter.
func TestExamples(t *testing.T) {
	o := begin(t, 8)
	made(t, o, api.Channel, 1)
	made(t, o, api.Channel, 2)
	status(t, api.OK, o.Pair(1, 2))
	made(t, o, api.Event, 3)
	status(t, api.OK, o.Carry(2, 3))
	unref(t, o, []int{2}, ended(2), shown(1, signal.PeerClosed), ended(3))
	there(t, o, 1)
	info(t, o, 1, Info{Kind: api.Channel, Refs: 1, Shows: signal.PeerClosed})
}

// P18.1: of each kind an object, which has one reference and shows what layer 5 says; of other kinds none.
func TestMake(t *testing.T) {
	o := begin(t, 11)
	for kind := 1; kind <= 11; kind++ {
		made(t, o, kind, kind)
		info(t, o, kind, Info{Kind: kind, Refs: 1, Shows: signal.First(kind)})
		carried(t, o, kind)
	}
	for _, kind := range []int{least, least + 1, -1 << 32, -11, -1, 0, 12, 13, 1 << 32, 1<<32 + 4, most} {
		// Of a strange kind that is told ahead of there being no room.
		notMade(t, o, kind, api.ErrInvalidArgs)
		notMade(t, begin(t, 1), kind, api.ErrInvalidArgs)
		notMade(t, begin(t, 0), kind, api.ErrInvalidArgs)
	}
	notMade(t, o, api.Job, api.ErrNoMemory)
	there(t, o, 1, 2, 3, 4, 5, 6, 7, 8, 9, 10, 11)
}

// P18.1: what ended leaves room, and its number to nobody; what was refused takes no number.
func TestNumbers(t *testing.T) {
	o := begin(t, 2)
	made(t, o, api.Event, 1)
	made(t, o, api.Port, 2)
	for id := 2; id < 40; id++ {
		notMade(t, o, api.Event, api.ErrNoMemory)
		notMade(t, o, 0, api.ErrInvalidArgs)
		unref(t, o, []int{id}, ended(id))
		notMade(t, o, 12, api.ErrInvalidArgs)
		made(t, o, api.Timer, id+1)
		there(t, o, 1, id+1)
	}
	unref(t, o, []int{40, 1}, ended(40), ended(1))
	there(t, o)
	made(t, o, api.Vmo, 41)
	info(t, o, 41, Info{Kind: api.Vmo, Refs: 1, Shows: signal.ZeroChildren})
}

// none asks all calls for an object that is not there.
func none(t *testing.T, o *Objects, id int) {
	t.Helper()
	status(t, api.ErrNotFound, o.Pair(id, 1))
	status(t, api.ErrNotFound, o.Pair(1, id))
	status(t, api.ErrNotFound, o.Pair(id, id))
	status(t, api.ErrNotFound, o.Ref(id))
	notUnref(t, o, api.ErrNotFound, id)
	notUnref(t, o, api.ErrNotFound, 1, id)
	notUnref(t, o, api.ErrNotFound, 1, 1, 1, 1, id)
	status(t, api.ErrNotFound, o.Pin(id))
	notUnpin(t, o, api.ErrNotFound, id)
	status(t, api.ErrNotFound, o.Carry(id))
	status(t, api.ErrNotFound, o.Carry(id, 1))
	status(t, api.ErrNotFound, o.Carry(id, id))
	status(t, api.ErrNotFound, o.Carry(1, id))
	status(t, api.ErrNotFound, o.Carry(1, 1, 2, 2, 2, id))
	status(t, api.ErrNotFound, o.Hand(id))
	status(t, api.ErrNotFound, o.Hand(id, 3))
	status(t, api.ErrNotFound, o.Hand(1, id))
	status(t, api.ErrNotFound, o.Hand(1, 3, 3, 3, id))
	got, s := o.Show(id, 0, signal.Signaled)
	refused(t, "Show", got, s, api.ErrNotFound)
	if got, ok := o.Info(id); got != (Info{}) || ok {
		t.Errorf("Info(%d): %v, %t; right is none", id, got, ok)
	}
	if got := o.Carried(id); len(got) != 0 {
		t.Errorf("Carried(%d): %v; right is none", id, got)
	}
}

// P18.1, P18.5: of numbers that no object has, or that of one that ended, nothing is told but that.
func TestNotFound(t *testing.T) {
	o := with(t, api.Channel, api.Event, api.Event, api.Event)
	status(t, api.OK, o.Carry(1, 3))
	for _, id := range append(noObjects(), 5, 6) {
		none(t, o, id)
	}
	made(t, o, api.Channel, 5)
	status(t, api.OK, o.Pair(5, 4))
	unref(t, o, []int{5}, ended(5), shown(4, signal.PeerClosed))
	none(t, o, 5)
	status(t, api.ErrNotFound, o.Pair(5, 4))
	info(t, o, 1, Info{Kind: api.Channel, Refs: 1, Carries: 1, Shows: signal.Writable})
	info(t, o, 2, Info{Kind: api.Event, Refs: 1})
	info(t, o, 3, Info{Kind: api.Event, Carried: 1})
	carried(t, o, 1, 3)
	there(t, o, 1, 2, 3, 4)
}

// P18.2: two objects of any kinds are peers once and for good.
func TestPair(t *testing.T) {
	for a := 1; a <= 11; a++ {
		for b := 1; b <= 11; b++ {
			o := with(t, a, b)
			status(t, api.ErrInvalidArgs, o.Pair(1, 1))
			status(t, api.OK, o.Pair(2, 1))
			info(t, o, 1, Info{Kind: a, Peer: 2, Refs: 1, Shows: signal.First(a)})
			info(t, o, 2, Info{Kind: b, Peer: 1, Refs: 1, Shows: signal.First(b)})
			status(t, api.ErrBadState, o.Pair(1, 2))
			status(t, api.ErrBadState, o.Pair(2, 1))
			status(t, api.ErrInvalidArgs, o.Pair(1, 1))
		}
	}
}

// P18.2: who has a peer, or had one, gets no other.
func TestPairHad(t *testing.T) {
	o := with(t, 4, 4, 8, 8, 7)
	status(t, api.OK, o.Pair(1, 2))
	status(t, api.OK, o.Pair(3, 4))
	for _, x := range [][2]int{{1, 3}, {3, 1}, {1, 5}, {5, 1}, {5, 4}, {4, 5}} {
		status(t, api.ErrBadState, o.Pair(x[0], x[1]))
	}
	info(t, o, 5, Info{Kind: api.Event, Refs: 1})
	info(t, o, 4, Info{Kind: api.EventPair, Peer: 3, Refs: 1})
	unref(t, o, []int{2}, ended(2), shown(1, signal.PeerClosed))
	unref(t, o, []int{3}, ended(3), shown(4, signal.PeerClosed))
	for _, x := range [][2]int{{1, 4}, {4, 1}, {1, 5}, {5, 1}} {
		status(t, api.ErrBadState, o.Pair(x[0], x[1]))
	}
	status(t, api.ErrInvalidArgs, o.Pair(1, 1))
	status(t, api.ErrNotFound, o.Pair(1, 2))
	info(t, o, 1, Info{Kind: api.Channel, Refs: 1, Shows: signal.PeerClosed})
	made(t, o, 7, 6)
	status(t, api.OK, o.Pair(6, 5))
	info(t, o, 5, Info{Kind: api.Event, Peer: 6, Refs: 1})
}

// P18.2: references are counted, each as often as it stands there; what is refused changes nothing.
func TestUnref(t *testing.T) {
	o := with(t, 7, 9)
	for range 3 {
		status(t, api.OK, o.Ref(1))
	}
	info(t, o, 1, Info{Kind: api.Event, Refs: 4})
	unref(t, o, nil)
	unref(t, o, []int{1})
	notUnref(t, o, api.ErrBadState, 1, 1, 1, 1)
	notUnref(t, o, api.ErrBadState, 1, 2, 1, 1, 1)
	notUnref(t, o, api.ErrBadState, 2, 1, 2)
	notUnref(t, o, api.ErrBadState, 2, 2)
	info(t, o, 1, Info{Kind: api.Event, Refs: 3})
	info(t, o, 2, Info{Kind: api.Port, Refs: 1})
	unref(t, o, []int{1, 1})
	info(t, o, 1, Info{Kind: api.Event, Refs: 1})
	unref(t, o, []int{1}, ended(1))
	notUnref(t, o, api.ErrNotFound, 1)
	notUnref(t, o, api.ErrNotFound, 2, 1)
	there(t, o, 2)
	// One that a pin alone holds has no reference to be taken.
	status(t, api.OK, o.Pin(2))
	unref(t, o, []int{2})
	notUnref(t, o, api.ErrBadState, 2)
	info(t, o, 2, Info{Kind: api.Port, Pins: 1})
	status(t, api.OK, o.Ref(2))
	unref(t, o, []int{2})
	unpin(t, o, 2, ended(2))
	there(t, o)
}

// P18.2: of several that end by one call each ends when it came to have no holder, even if it was named ahead.
func TestUnrefOrder(t *testing.T) {
	o := with(t, 7, 7, 7, 7, 7)
	status(t, api.OK, o.Ref(2))
	status(t, api.OK, o.Pin(3))
	unref(t, o, []int{5, 2, 3, 4, 2, 1}, ended(5), ended(4), ended(2), ended(1))
	there(t, o, 3)
	unpin(t, o, 3, ended(3))
}

// P18.2: pins are counted.
func TestPins(t *testing.T) {
	o := with(t, 3)
	notUnpin(t, o, api.ErrBadState, 1)
	status(t, api.OK, o.Pin(1))
	status(t, api.OK, o.Pin(1))
	info(t, o, 1, Info{Kind: api.Thread, Refs: 1, Pins: 2})
	unpin(t, o, 1)
	unref(t, o, []int{1})
	status(t, api.OK, o.Ref(1))
	info(t, o, 1, Info{Kind: api.Thread, Refs: 1, Pins: 1})
	unpin(t, o, 1)
	notUnpin(t, o, api.ErrBadState, 1)
	info(t, o, 1, Info{Kind: api.Thread, Refs: 1})
	unref(t, o, []int{1}, ended(1))
	notUnpin(t, o, api.ErrNotFound, 1)
	status(t, api.ErrNotFound, o.Pin(1))
}

// P18.3: each is carried for a reference, behind the others.
func TestCarry(t *testing.T) {
	o := with(t, 4, 7, 7, 4)
	status(t, api.OK, o.Ref(2))
	status(t, api.OK, o.Ref(2))
	status(t, api.OK, o.Carry(1))
	carried(t, o, 1)
	status(t, api.OK, o.Carry(1, 2, 3))
	carried(t, o, 1, 2, 3)
	status(t, api.OK, o.Carry(1, 2))
	status(t, api.OK, o.Carry(4, 2))
	carried(t, o, 1, 2, 3, 2)
	carried(t, o, 4, 2)
	info(t, o, 1, Info{Kind: api.Channel, Refs: 1, Carries: 3, Shows: signal.Writable})
	info(t, o, 2, Info{Kind: api.Event, Carried: 3})
	info(t, o, 3, Info{Kind: api.Event, Carried: 1})
	info(t, o, 4, Info{Kind: api.Channel, Refs: 1, Carries: 1, Shows: signal.Writable})
	// Any kind may carry any, itself carried.
	status(t, api.OK, o.Ref(1))
	status(t, api.OK, o.Carry(2, 1))
	carried(t, o, 2, 1)
	info(t, o, 1, Info{Kind: api.Channel, Refs: 1, Carried: 1, Carries: 3, Shows: signal.Writable})
}

// P18.3: too few references are told ahead of the holder being one of them; then nothing changes.
func TestCarryRefused(t *testing.T) {
	o := with(t, 4, 7, 7)
	status(t, api.OK, o.Ref(1))
	status(t, api.OK, o.Ref(2))
	status(t, api.OK, o.Pin(3))
	for _, ids := range [][]int{{2, 2, 2}, {3, 3}, {3, 2, 3}, {2, 3, 2, 2}, {1, 3, 3}, {1, 1, 1}, {2, 1, 2, 2}, {1, 2, 1, 1}} {
		status(t, api.ErrBadState, o.Carry(1, ids...))
	}
	for _, ids := range [][]int{{1}, {1, 1}, {2, 1}, {1, 2, 2, 3}, {2, 3, 1}} {
		status(t, api.ErrInvalidArgs, o.Carry(1, ids...))
	}
	status(t, api.OK, o.Carry(1, 3))
	status(t, api.ErrBadState, o.Carry(1, 3))
	status(t, api.ErrBadState, o.Carry(2, 3))
	status(t, api.ErrBadState, o.Carry(3, 3))
	carried(t, o, 1, 3)
	carried(t, o, 2)
	info(t, o, 1, Info{Kind: api.Channel, Refs: 2, Carries: 1, Shows: signal.Writable})
	info(t, o, 2, Info{Kind: api.Event, Refs: 2})
	info(t, o, 3, Info{Kind: api.Event, Pins: 1, Carried: 1})
}

// load gives an object so many references more, and lets the holder carry them, one by one.
func load(t *testing.T, o *Objects, holder int, ids ...int) {
	t.Helper()
	for _, id := range ids {
		status(t, api.OK, o.Ref(id))
		status(t, api.OK, o.Carry(holder, id))
	}
}

// P18.3: what is handed is the first of several, and has a reference again.
func TestHand(t *testing.T) {
	o := with(t, 4, 7, 7, 7, 4)
	load(t, o, 1, 2, 3, 2, 4, 3, 2)
	load(t, o, 5, 3, 3)
	status(t, api.OK, o.Hand(1))
	status(t, api.OK, o.Hand(1, 2))
	carried(t, o, 1, 3, 2, 4, 3, 2)
	info(t, o, 2, Info{Kind: api.Event, Refs: 2, Carried: 2})
	status(t, api.OK, o.Hand(1, 3))
	carried(t, o, 1, 2, 4, 3, 2)
	carried(t, o, 5, 3, 3)
	info(t, o, 3, Info{Kind: api.Event, Refs: 2, Carried: 3})
	status(t, api.OK, o.Carry(1, 3))
	carried(t, o, 1, 2, 4, 3, 2, 3)
	status(t, api.OK, o.Hand(1, 2, 3, 2))
	carried(t, o, 1, 4, 3)
	status(t, api.OK, o.Hand(1, 3, 4))
	carried(t, o, 1)
	carried(t, o, 5, 3, 3)
	info(t, o, 1, Info{Kind: api.Channel, Refs: 1, Shows: signal.Writable})
	info(t, o, 2, Info{Kind: api.Event, Refs: 4})
	info(t, o, 3, Info{Kind: api.Event, Refs: 3, Carried: 2})
	info(t, o, 4, Info{Kind: api.Event, Refs: 2})
	load(t, o, 1, 4, 2)
	carried(t, o, 1, 4, 2)
}

// P18.3: what this holder does not carry as often is not handed; then nothing changes.
func TestHandRefused(t *testing.T) {
	o := with(t, 4, 7, 7, 4)
	status(t, api.ErrBadState, o.Hand(1, 2))
	status(t, api.ErrBadState, o.Hand(1, 1))
	load(t, o, 1, 2, 3, 2)
	load(t, o, 4, 3, 3)
	for _, ids := range [][]int{{2, 2, 2}, {3, 3}, {3, 2, 3}, {1}, {4}, {2, 3, 4}, {3, 2, 2, 2}} {
		status(t, api.ErrBadState, o.Hand(1, ids...))
	}
	status(t, api.ErrBadState, o.Hand(2, 3))
	status(t, api.ErrBadState, o.Hand(2, 1))
	status(t, api.ErrBadState, o.Hand(4, 2))
	carried(t, o, 1, 2, 3, 2)
	carried(t, o, 4, 3, 3)
	info(t, o, 2, Info{Kind: api.Event, Refs: 1, Carried: 2})
	info(t, o, 3, Info{Kind: api.Event, Refs: 1, Carried: 3})
	status(t, api.OK, o.Hand(1, 2, 2))
	status(t, api.ErrBadState, o.Hand(1, 2))
	status(t, api.ErrBadState, o.Hand(1, 3, 2))
	carried(t, o, 1, 3)
}

// P18.4: an object shows whatever it is let show, and what changes nothing is no event.
func TestShow(t *testing.T) {
	o := with(t, 4, 7)
	show(t, o, 1, 0, 0)
	show(t, o, 1, 0, signal.Writable)
	show(t, o, 1, signal.Readable, 0)
	show(t, o, 1, signal.Writable, signal.Writable)
	show(t, o, 1, 0, signal.Readable, shown(1, 3))
	show(t, o, 1, signal.Writable, signal.User(7)|signal.Terminated, shown(1, 1+16+1<<15))
	info(t, o, 1, Info{Kind: api.Channel, Refs: 1, Shows: 1 + 16 + 1<<15})
	info(t, o, 2, Info{Kind: api.Event, Refs: 1})
	show(t, o, 1, -1, 0, shown(1, 0))
	show(t, o, 1, -1, 0)
	show(t, o, 1, 5, 5, shown(1, 5))
	show(t, o, 1, -1, 5)
	show(t, o, 1, 4, 8, shown(1, 9))
	for _, bits := range []signal.Set{least, most, -1, 1 << 62, 1 << 16, 6} {
		show(t, o, 2, 0, bits, shown(2, bits))
		show(t, o, 2, bits, bits)
		show(t, o, 2, bits, 0, shown(2, 0))
	}
	there(t, o, 1, 2)
}

// P18.2: by the end of an object its peer has none, and shows that; it is an event only if it shows something else by that.
func TestEndOfPeer(t *testing.T) {
	for shows, want := range map[signal.Set]signal.Set{0: 4, 1: 5, 2: 4, 3: 5, 6: 4, 7: 5, 4: 4, 5: 5, 1 << 15: 1<<15 + 4, -1: -3, -3: -3, 2 + 8: 4 + 8} {
		o := with(t, 4, 4, 7)
		status(t, api.OK, o.Pair(1, 2))
		o.Show(2, -1, shows)
		if shows == want {
			unref(t, o, []int{1}, ended(1))
		} else {
			unref(t, o, []int{1}, ended(1), shown(2, want))
		}
		info(t, o, 2, Info{Kind: api.Channel, Refs: 1, Shows: want})
		unref(t, o, []int{2}, ended(2))
		there(t, o, 3)
	}
}

// P18.2: of peers that both wait to end, the second shows that it has none ahead of its own end; the first shows nothing any more.
func TestEndOfBothPeers(t *testing.T) {
	o := with(t, 4, 4)
	status(t, api.OK, o.Pair(1, 2))
	unref(t, o, []int{2, 1}, ended(2), shown(1, signal.PeerClosed), ended(1))
	o = with(t, 8, 8)
	status(t, api.OK, o.Pair(1, 2))
	unref(t, o, []int{1, 2}, ended(1), shown(2, signal.PeerClosed), ended(2))
	there(t, o)
}

// P18.2: a peer that is carried, or pinned, goes on without its peer; carried by it, it ends by that.
func TestEndOfCarriedPeer(t *testing.T) {
	o := with(t, 4, 4, 4)
	status(t, api.OK, o.Pair(1, 2))
	status(t, api.OK, o.Carry(3, 2))
	unref(t, o, []int{1}, ended(1), shown(2, signal.PeerClosed))
	info(t, o, 2, Info{Kind: api.Channel, Carried: 1, Shows: signal.PeerClosed})
	unref(t, o, []int{3}, ended(3), ended(2))

	o = with(t, 4, 4)
	status(t, api.OK, o.Pair(1, 2))
	status(t, api.OK, o.Carry(1, 2))
	unref(t, o, []int{1}, ended(1), shown(2, signal.PeerClosed), ended(2))

	o = with(t, 4, 4)
	status(t, api.OK, o.Pair(1, 2))
	status(t, api.OK, o.Pin(2))
	status(t, api.OK, o.Carry(1, 2))
	unref(t, o, []int{1}, ended(1), shown(2, signal.PeerClosed))
	unpin(t, o, 2, ended(2))
}

// P18.2: what ends by an end waits behind what waited already: the ends go in breadth.
func TestEndOrder(t *testing.T) {
	o := with(t, 4, 4, 4, 7, 7, 7, 7, 4)
	status(t, api.OK, o.Pair(8, 4))
	status(t, api.OK, o.Carry(1, 3, 2))
	status(t, api.OK, o.Carry(2, 5, 4))
	status(t, api.OK, o.Carry(3, 7, 6))
	unref(t, o, []int{1}, ended(1), ended(3), ended(2), ended(7), ended(6), ended(5), ended(4), shown(8, signal.PeerClosed))
	there(t, o, 8)

	// What is named waits ahead of what one that was named carries.
	o = with(t, 4, 7, 7)
	status(t, api.OK, o.Carry(1, 3))
	unref(t, o, []int{1, 2}, ended(1), ended(2), ended(3))
}

// P18.2: what is carried several times ends when the last of these is gone.
func TestEndOfCarriedOften(t *testing.T) {
	o := with(t, 4, 7, 7, 7, 4)
	status(t, api.OK, o.Ref(2))
	status(t, api.OK, o.Carry(1, 2, 3, 2, 4))
	unref(t, o, []int{1}, ended(1), ended(3), ended(2), ended(4))
	there(t, o, 5)

	// Carried by two, it ends by the second; what has a reference or a pin stays.
	o = with(t, 4, 4, 7, 7, 7)
	load(t, o, 1, 3, 4)
	load(t, o, 2, 3, 5, 3)
	status(t, api.OK, o.Pin(5))
	unref(t, o, []int{3, 5})
	unref(t, o, []int{1}, ended(1))
	info(t, o, 3, Info{Kind: api.Event, Carried: 2})
	info(t, o, 4, Info{Kind: api.Event, Refs: 1})
	unref(t, o, []int{2}, ended(2), ended(3))
	info(t, o, 5, Info{Kind: api.Event, Pins: 1})
	there(t, o, 4, 5)
}

// P18.3: what was handed is not carried any more, and stays when its holder ends.
func TestEndOfHolderThatHanded(t *testing.T) {
	o := with(t, 4, 7, 7)
	status(t, api.OK, o.Carry(1, 2, 3))
	status(t, api.OK, o.Hand(1, 2))
	unref(t, o, []int{1}, ended(1), ended(3))
	info(t, o, 2, Info{Kind: api.Event, Refs: 1})
}

// P18.6: objects that carry each other hold each other, though nobody can reach them: the leak that is documented.
func TestLeak(t *testing.T) {
	o := with(t, 4, 4, 7)
	load(t, o, 1, 2)
	load(t, o, 2, 1)
	status(t, api.OK, o.Carry(2, 3))
	unref(t, o, []int{1, 2})
	there(t, o, 1, 2, 3)
	info(t, o, 1, Info{Kind: api.Channel, Carried: 1, Carries: 1, Shows: signal.Writable})
	notUnref(t, o, api.ErrBadState, 1)
	// They are there, so they may be had again; then the ring may be cut.
	status(t, api.OK, o.Ref(1))
	status(t, api.OK, o.Hand(1, 2))
	unref(t, o, []int{1})
	unref(t, o, []int{2}, ended(2), ended(1), ended(3))
	there(t, o)

	// A peer in its peer's queue.
	o = with(t, 4, 4)
	status(t, api.OK, o.Pair(1, 2))
	status(t, api.OK, o.Carry(1, 2))
	load(t, o, 2, 1)
	unref(t, o, []int{1})
	there(t, o, 1, 2)
}

// spoil sets all places of a list, spare ones too.
func spoil[T any](list []T, with T) {
	for i := range list[:cap(list)] {
		list[:cap(list)][i] = with
	}
}

// Memory: what is handed in is neither changed nor kept.
func TestHandedIn(t *testing.T) {
	o := with(t, 4, 7, 7, 7)
	room := []int{2, 3, 2, 99, 98}
	ids := room[:3]
	status(t, api.OK, o.Ref(2))
	status(t, api.OK, o.Carry(1, ids...))
	if !slices.Equal(room, []int{2, 3, 2, 99, 98}) {
		t.Errorf("Carry changed what was handed in: %v", room)
	}
	spoil(ids, 77)
	carried(t, o, 1, 2, 3, 2)
	copy(room, []int{3, 2, 2})
	status(t, api.OK, o.Hand(1, ids...))
	if !slices.Equal(room, []int{3, 2, 2, 77, 77}) {
		t.Errorf("Hand changed what was handed in: %v", room)
	}
	spoil(ids, 76)
	carried(t, o, 1)
	copy(room, []int{4, 2, 2})
	unref(t, o, ids, ended(4), ended(2))
	if !slices.Equal(room, []int{4, 2, 2, 76, 76}) {
		t.Errorf("Unref changed what was handed in: %v", room)
	}
	there(t, o, 1, 3)
}

// Memory: what is told is new, spare room too.
func TestNewMemory(t *testing.T) {
	o := with(t, 4, 4, 7, 7, 7, 7)
	status(t, api.OK, o.Pair(1, 2))
	status(t, api.OK, o.Carry(1, 4, 3, 5))
	for range 3 {
		spoil(o.IDs(), 77)
		spoil(o.Carried(1), 77)
	}
	there(t, o, 1, 2, 3, 4, 5, 6)
	carried(t, o, 1, 4, 3, 5)
	list, ids := o.Carried(1), o.IDs()
	status(t, api.OK, o.Hand(1, 4))
	shows, _ := o.Show(6, 0, signal.Signaled)
	if !slices.Equal(list, []int{4, 3, 5}) {
		t.Errorf("what was told was changed by the next call: %v", list)
	}
	gone, _ := o.Unref(1)
	if !slices.Equal(ids, []int{1, 2, 3, 4, 5, 6}) || !slices.Equal(shows, []Event{shown(6, 8)}) {
		t.Errorf("what was told was changed by the next call: %v, %v", ids, shows)
	}
	spoil(shows, ended(77))
	spoil(list, 77)
	if !slices.Equal(gone, []Event{ended(1), shown(2, 4), ended(3), ended(5)}) {
		t.Errorf("Unref: %v", gone)
	}
	next, _ := o.Unref(6)
	spoil(gone, ended(77))
	if !slices.Equal(next, []Event{ended(6)}) {
		t.Errorf("Unref: %v", next)
	}
	there(t, o, 2, 4)
}

// P18.1 to P18.5: objects here know nothing of those elsewhere.
func TestApart(t *testing.T) {
	one, other := with(t, 4, 4, 7), with(t, 4, 4, 7)
	status(t, api.OK, one.Pair(1, 2))
	status(t, api.OK, one.Carry(1, 3))
	info(t, other, 1, Info{Kind: api.Channel, Refs: 1, Shows: signal.Writable})
	status(t, api.ErrBadState, other.Hand(1, 3))
	unref(t, one, []int{1}, ended(1), shown(2, 4), ended(3))
	there(t, other, 1, 2, 3)
	made(t, other, 9, 4)
	status(t, api.ErrNotFound, one.Ref(4))
	made(t, one, 9, 4)
}

// P18.2, P18.6: as many objects as may be, each carried by the one ahead of it, end one after the other.
func TestChainAtTheLimit(t *testing.T) {
	o := begin(t, api.MaxSlots)
	want := make([]Event, 0, api.MaxSlots)
	for id := 1; id <= api.MaxSlots; id++ {
		made(t, o, api.Channel, id)
		want = append(want, ended(id))
	}
	for id := 2; id <= api.MaxSlots; id++ {
		if s := o.Carry(id-1, id); s != api.OK {
			t.Fatalf("Carry(%d, %d): %d", id-1, id, s)
		}
	}
	notMade(t, o, api.Channel, api.ErrNoMemory)
	if got, s := o.Unref(1); !slices.Equal(got, want) || s != api.OK {
		t.Errorf("Unref(1): %d events, %d; right is %d, 0", len(got), s, len(want))
	}
	there(t, o)
	made(t, o, api.Channel, api.MaxSlots+1)
}

// P18.2, P18.3: one object that carries all others, many times over, handed in any order, and ends.
func TestFanAtTheLimit(t *testing.T) {
	o := begin(t, api.MaxSlots)
	var ids []int
	var want []Event
	made(t, o, api.Channel, 1)
	for id := 2; id <= api.MaxSlots; id++ {
		made(t, o, api.Event, id)
		status(t, api.OK, o.Ref(id))
		ids = append(ids, id)
		want = append(want, ended(id))
	}
	for _, id := range ids {
		if s := o.Carry(1, id); s != api.OK {
			t.Fatalf("Carry(1, %d): %d", id, s)
		}
	}
	status(t, api.OK, o.Carry(1, ids...))
	carried(t, o, 1, append(slices.Clone(ids), ids...)...)
	// From the front the first half, from behind the other.
	for i, id := range ids {
		if i >= len(ids)/2 {
			id = ids[len(ids)-1-(i-len(ids)/2)]
		}
		if s := o.Hand(1, id); s != api.OK {
			t.Fatalf("Hand(1, %d): %d", id, s)
		}
	}
	carried(t, o, 1, ids...)
	unref(t, o, ids)
	unref(t, o, []int{1}, append([]Event{ended(1)}, want...)...)
	there(t, o)
}

// P18.2, P18.3: one object with very many references, carried very often, taken by one call and by many.
func TestManyReferences(t *testing.T) {
	o := with(t, 4, 7)
	const many = 200000
	all := make([]int, many)
	for i := range all {
		all[i] = 2
		status(t, api.OK, o.Ref(2))
	}
	info(t, o, 2, Info{Kind: api.Event, Refs: many + 1})
	status(t, api.ErrBadState, o.Carry(1, append(all, 2, 2)...))
	notUnref(t, o, api.ErrBadState, append(all, 2, 2)...)
	status(t, api.OK, o.Carry(1, append(all, 2)...))
	status(t, api.ErrBadState, o.Hand(1, append(all, 2, 2)...))
	info(t, o, 2, Info{Kind: api.Event, Carried: many + 1})
	for range all {
		if s := o.Hand(1, 2); s != api.OK {
			t.Fatalf("Hand(1, 2): %d", s)
		}
	}
	info(t, o, 2, Info{Kind: api.Event, Refs: many, Carried: 1})
	unref(t, o, all)
	carried(t, o, 1, 2)
	unref(t, o, []int{1}, ended(1), ended(2))
}

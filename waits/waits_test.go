package waits

import (
	"slices"
	"testing"

	"jacinth/api"
	"jacinth/signal"
)

const (
	most  = 1<<63 - 1
	least = -1 << 63
)

// strange are numbers that deadlines and times may be as well as any other, rising.
func strange() []int {
	return []int{least, least + 1, -1<<32 - 1, -1 << 32, -api.MaxSlots, -2, -1, 0, 1, 2, 64, api.MaxSlots, 1 << 32, 1<<32 + 1, api.MaxTime, api.MaxTime + 1, 1 << 62, most - 1, most}
}

// strangeThreads are numbers that a thread may have, rising.
func strangeThreads() []int {
	return []int{0, 1, 2, 63, api.MaxSlots - 1, api.MaxSlots, 1 << 32, 1<<32 + 1, 1 << 62, most - 1, most}
}

// below0 are numbers that no thread and no object has.
func below0() []int {
	return []int{least, least + 1, -1<<32 + 5, -1 << 32, -api.MaxSlots, -5, -2, -1}
}

// noObjects are numbers that no object has.
func noObjects() []int {
	return append(below0(), 0)
}

// begin makes waits, which there must be.
func begin(t *testing.T, count int) *Waits {
	t.Helper()
	made := New(count)
	if made == nil {
		t.Fatalf("New(%d): nil", count)
	}
	return made
}

// block blocks a thread, and just this status must be told.
func block(t *testing.T, w *Waits, want api.Status, thread, deadline int, items ...Item) {
	t.Helper()
	if got := w.Block(thread, deadline, items...); got != want {
		t.Errorf("Block(%d, %d, %v): %d; right is %d", thread, deadline, items, got, want)
	}
}

// tell tells what an object shows, and just these must be woken.
func tell(t *testing.T, w *Waits, object int, shows signal.Set, want ...Woken) {
	t.Helper()
	if got := w.Tell(object, shows); !slices.Equal(got, want) {
		t.Errorf("Tell(%d, %d): %v; right is %v", object, shows, got, want)
	}
}

// expire tells what time it is, and just these must be woken.
func expire(t *testing.T, w *Waits, now int, want ...Woken) {
	t.Helper()
	if got := w.Expire(now); !slices.Equal(got, want) {
		t.Errorf("Expire(%d): %v; right is %v", now, got, want)
	}
}

// cancel cancels an object, and just these must be woken.
func cancel(t *testing.T, w *Waits, object int, want ...Woken) {
	t.Helper()
	if got := w.Cancel(object); !slices.Equal(got, want) {
		t.Errorf("Cancel(%d): %v; right is %v", object, got, want)
	}
}

// forget forgets a thread, and just this status must be told.
func forget(t *testing.T, w *Waits, thread int, want api.Status) {
	t.Helper()
	if got := w.Forget(thread); got != want {
		t.Errorf("Forget(%d): %d; right is %d", thread, got, want)
	}
}

// shown is a thread that an object woke by what it shows.
func shown(thread, item int, shows signal.Set) Woken {
	return Woken{Thread: thread, Item: item, Status: 0, Shows: shows}
}

// late is a thread whose deadline came.
func late(thread int) Woken {
	return Woken{Thread: thread, Item: -1, Status: -21, Shows: 0}
}

// canceled is a thread that an object woke by its end.
func canceled(thread, item int) Woken {
	return Woken{Thread: thread, Item: item, Status: -23, Shows: 0}
}

// till is a thread and its deadline.
type till struct {
	thread, deadline int
}

// holds holds all that is told of who waits against what is right, in the order in which they blocked.
func holds(t *testing.T, w *Waits, want ...till) {
	t.Helper()
	if got := w.Count(); got != len(want) {
		t.Errorf("Count: %d; right is %d", got, len(want))
	}
	var threads []int
	for _, x := range want {
		threads = append(threads, x.thread)
		if got, ok := w.Deadline(x.thread); got != x.deadline || !ok {
			t.Errorf("Deadline(%d): %d, %t; right is %d, true", x.thread, got, ok, x.deadline)
		}
		if !w.Blocked(x.thread) {
			t.Errorf("Blocked(%d): false", x.thread)
		}
	}
	if got := w.Threads(); !slices.Equal(got, threads) {
		t.Errorf("Threads: %v; right is %v", got, threads)
	}
	for _, thread := range slices.Concat(below0(), strangeThreads()) {
		if !slices.Contains(threads, thread) {
			none(t, w, thread)
		}
	}
}

// none asks for a thread that does not wait.
func none(t *testing.T, w *Waits, thread int) {
	t.Helper()
	if w.Blocked(thread) {
		t.Errorf("Blocked(%d): true", thread)
	}
	if got, ok := w.Deadline(thread); got != 0 || ok {
		t.Errorf("Deadline(%d): %d, %t; right is 0, false", thread, got, ok)
	}
}

// The chapter's examples.
func TestExamples(t *testing.T) {
	w := begin(t, 2)
	block(t, w, api.OK, 3, 10, Item{5, 1}, Item{6, 2})
	block(t, w, api.OK, 1, 9, Item{6, 3})
	tell(t, w, 6, 2, shown(3, 1, 2), shown(1, 0, 2))
	holds(t, w)
}

// P16.1: which waits there are, and that nobody waits at first.
func TestNew(t *testing.T) {
	for _, count := range []int{0, 1, 2, 3, 255, 256, 1<<15 + 1, api.MaxSlots - 1, api.MaxSlots} {
		w := begin(t, count)
		holds(t, w)
		for _, object := range append(noObjects(), 1, 2, most) {
			tell(t, w, object, -1)
			cancel(t, w, object)
		}
		for _, now := range strange() {
			expire(t, w, now)
		}
		for _, thread := range slices.Concat(below0(), strangeThreads()) {
			forget(t, w, thread, api.ErrNotFound)
		}
	}
	for _, count := range append(below0(), api.MaxSlots+1, api.MaxSlots+2, 1<<32, 1<<32+1, 1<<62, most-1, most) {
		if New(count) != nil {
			t.Errorf("New(%d): not nil", count)
		}
	}
}

// some are so many items, of the objects 1, 2 and so on.
func some(count int) []Item {
	var items []Item
	for i := range count {
		items = append(items, Item{i + 1, 1})
	}
	return items
}

// P16.1: there are from 1 to 8 items.
func TestBlockItems(t *testing.T) {
	for count := range 20 {
		w := begin(t, 1)
		if count < 1 || count > 8 {
			block(t, w, api.ErrInvalidArgs, 1, 5, some(count)...)
			holds(t, w)
			continue
		}
		block(t, w, api.OK, 1, 5, some(count)...)
		holds(t, w, till{1, 5})
		tell(t, w, count+1, 1)
		tell(t, w, count, 1, shown(1, count-1, 1))
		holds(t, w)
	}
	w := begin(t, 1)
	block(t, w, api.ErrInvalidArgs, 1, 5, some(256)...)
	block(t, w, api.ErrInvalidArgs, 1, 5, some(257)...)
	block(t, w, api.ErrInvalidArgs, 1, 5, some(api.MaxSlots+1)...)
	holds(t, w)
}

// P16.1: no item is of a number below 1, wherever it stands.
func TestBlockObjects(t *testing.T) {
	for _, object := range noObjects() {
		w := begin(t, 1)
		for count := 1; count <= 8; count++ {
			for at := range count {
				items := some(count)
				items[at].Object = object
				block(t, w, api.ErrInvalidArgs, 1, 5, items...)
			}
		}
		holds(t, w)
		tell(t, w, object, -1)
		cancel(t, w, object)
	}
	for _, object := range []int{1, 2, api.MaxSlots, 1 << 32, 1<<32 + 1, most - 1, most} {
		w := begin(t, 1)
		block(t, w, api.OK, 1, 5, Item{object, 1})
		for _, other := range append(noObjects(), object-1, object^1<<32, 5) {
			tell(t, w, other, -1)
			cancel(t, w, other)
		}
		holds(t, w, till{1, 5})
		tell(t, w, object, 1, shown(1, 0, 1))
		holds(t, w)
	}
}

// P16.1: threads have numbers from 0 on.
func TestBlockThreads(t *testing.T) {
	w := begin(t, 100)
	for _, thread := range below0() {
		block(t, w, api.ErrInvalidArgs, thread, 5, Item{1, 1})
	}
	holds(t, w)
	var want []till
	var woken []Woken
	for _, thread := range strangeThreads() {
		block(t, w, api.OK, thread, 5, Item{1, 1})
		want = append(want, till{thread, 5})
		woken = append(woken, shown(thread, 0, 1))
		holds(t, w, want...)
	}
	tell(t, w, 1, 1, woken...)
	holds(t, w)
}

// P16.1: a thread waits at most once: what it waits for first stays; it may wait again once it does not any more.
func TestBlockTwice(t *testing.T) {
	w := begin(t, 3)
	block(t, w, api.OK, 4, 5, Item{1, 1})
	block(t, w, api.OK, 2, 5, Item{1, 1})
	block(t, w, api.ErrAlreadyExists, 4, 9, Item{2, 2})
	block(t, w, api.ErrAlreadyExists, 4, 5, Item{1, 1})
	block(t, w, api.ErrAlreadyExists, 2, 0, some(8)...)
	holds(t, w, till{4, 5}, till{2, 5})
	cancel(t, w, 2)
	tell(t, w, 1, 1, shown(4, 0, 1), shown(2, 0, 1))
	block(t, w, api.OK, 4, 9, Item{2, 2})
	holds(t, w, till{4, 9})
	expire(t, w, 9, late(4))
	block(t, w, api.OK, 4, 8, Item{3, 2})
	cancel(t, w, 3, canceled(4, 0))
	block(t, w, api.OK, 4, 7, Item{3, 2})
	forget(t, w, 4, api.OK)
	block(t, w, api.OK, 4, 6, Item{5, 2})
	holds(t, w, till{4, 6})
	// Nothing is left of what it waited for before.
	cancel(t, w, 1)
	cancel(t, w, 2)
	cancel(t, w, 3)
	cancel(t, w, 5, canceled(4, 0))
}

// P16.1: so many may wait, and not one more, till one does not any more.
func TestBlockFull(t *testing.T) {
	for count := range 5 {
		w := begin(t, count)
		var want []till
		for thread := range count {
			block(t, w, api.OK, thread, 50-thread, Item{1, 1}, Item{thread + 2, 1})
			want = append(want, till{thread, 50 - thread})
		}
		block(t, w, api.ErrNoMemory, count, 5, Item{1, 1})
		block(t, w, api.ErrNoMemory, most, 5, Item{1, 1})
		holds(t, w, want...)
		if count == 0 {
			continue
		}
		last := count - 1
		free := []func(){
			func() { tell(t, w, last+2, 1, shown(last, 1, 1)) },
			func() { expire(t, w, 50-last, late(last)) },
			func() { cancel(t, w, last+2, canceled(last, 1)) },
			func() { forget(t, w, last, api.OK) },
		}
		for _, f := range free {
			f()
			holds(t, w, want[:last]...)
			block(t, w, api.OK, last, 50-last, Item{1, 1}, Item{last + 2, 1})
			block(t, w, api.ErrNoMemory, count, 5, Item{1, 1})
			holds(t, w, want...)
		}
	}
}

// P16.1: where several statuses apply, the first one is told.
func TestBlockErrorsInOrder(t *testing.T) {
	w := begin(t, 1)
	block(t, w, api.OK, 1, 5, Item{1, 1})
	wrong := [][]Item{nil, {}, some(9), {{0, 1}}, {{-1, 1}, {1, 1}}, {{1, 1}, {2, 1}, {0, 1}}}
	for _, items := range wrong {
		for _, thread := range []int{-1, 0, 1, 2} {
			block(t, w, api.ErrInvalidArgs, thread, 5, items...)
		}
	}
	block(t, w, api.ErrInvalidArgs, -1, 5, Item{1, 1})
	block(t, w, api.ErrAlreadyExists, 1, 5, Item{1, 1})
	block(t, w, api.ErrNoMemory, 2, 5, Item{1, 1})
	holds(t, w, till{1, 5})
	tell(t, w, 1, 1, shown(1, 0, 1))
	w = begin(t, 0)
	block(t, w, api.ErrInvalidArgs, -1, 5, Item{1, 1})
	block(t, w, api.ErrInvalidArgs, 1, 5)
	block(t, w, api.ErrNoMemory, 1, 5, Item{1, 1})
	holds(t, w)
}

// P16.2: a mask may be anything; it is met by each bit that both have, and by no other.
func TestTellMasks(t *testing.T) {
	for _, mask := range strange() {
		for _, shows := range strange() {
			w := begin(t, 1)
			block(t, w, api.OK, 1, 5, Item{3, signal.Set(mask)})
			if mask&shows == 0 {
				tell(t, w, 3, signal.Set(shows))
				holds(t, w, till{1, 5})
				cancel(t, w, 3, canceled(1, 0))
				continue
			}
			tell(t, w, 3, signal.Set(shows), shown(1, 0, signal.Set(shows)))
			holds(t, w)
		}
	}
	for bit := range 64 {
		w := begin(t, 64)
		for thread := range 64 {
			block(t, w, api.OK, thread, 5, Item{3, 1 << thread})
		}
		tell(t, w, 3, 1<<bit, shown(bit, 0, 1<<bit))
		if got := w.Count(); got != 63 {
			t.Errorf("Count: %d; right is 63", got)
		}
	}
}

// P16.2: all that is shown is told, not only what was waited for.
func TestTellShows(t *testing.T) {
	w := begin(t, 3)
	block(t, w, api.OK, 1, 5, Item{3, 1})
	block(t, w, api.OK, 2, 5, Item{3, 6})
	block(t, w, api.OK, 3, 5, Item{3, 8})
	tell(t, w, 3, 0)
	tell(t, w, 3, 7, shown(1, 0, 7), shown(2, 0, 7))
	tell(t, w, 3, 7)
	tell(t, w, 3, -1, shown(3, 0, -1))
}

// P16.2: the first item is told that is of the object and met, be there several of it, or others ahead.
func TestTellFirstItem(t *testing.T) {
	items := []Item{{1, 1}, {2, 2}, {1, 2}, {1, 2}, {2, 1}, {3, 8}, {1, 4}, {3, 8}}
	wakes := []struct {
		object, shows, item int
	}{
		{1, 1, 0}, {1, 2, 2}, {1, 4, 6}, {1, 3, 0}, {1, 6, 2}, {1, 7, 0}, {1, 8, -1}, {1, 0, -1},
		{2, 1, 4}, {2, 2, 1}, {2, 3, 1}, {2, 4, -1}, {2, 5, 4},
		{3, 8, 5}, {3, 7, -1}, {3, -1, 5}, {4, -1, -1}, {0, -1, -1}, {-1, -1, -1},
	}
	for _, k := range wakes {
		w := begin(t, 1)
		block(t, w, api.OK, 9, 5, items...)
		if k.item < 0 {
			tell(t, w, k.object, signal.Set(k.shows))
			holds(t, w, till{9, 5})
			continue
		}
		tell(t, w, k.object, signal.Set(k.shows), shown(9, k.item, signal.Set(k.shows)))
		holds(t, w)
	}
	for item := range 8 {
		w := begin(t, 1)
		block(t, w, api.OK, 9, 5, some(8)...)
		tell(t, w, item+1, 1, shown(9, item, 1))
		holds(t, w)
	}
}

// P16.2: threads are woken in the order in which they blocked, whatever their numbers, deadlines and items; the others go on waiting.
func TestTellOrder(t *testing.T) {
	w := begin(t, 6)
	block(t, w, api.OK, 9, 1, Item{4, 1}, Item{1, 1})
	block(t, w, api.OK, 3, 9, Item{1, 2})
	block(t, w, api.OK, 7, 5, Item{1, 1})
	block(t, w, api.OK, 0, 4, Item{2, 1})
	block(t, w, api.OK, 8, 7, Item{2, 1}, Item{3, 1}, Item{1, 3})
	block(t, w, api.OK, 5, 3, Item{1, 1}, Item{2, 1})
	tell(t, w, 1, 1, shown(9, 1, 1), shown(7, 0, 1), shown(8, 2, 1), shown(5, 0, 1))
	holds(t, w, till{3, 9}, till{0, 4})
	// Who waits anew stands behind all others.
	block(t, w, api.OK, 5, 3, Item{1, 2}, Item{2, 1})
	block(t, w, api.OK, 9, 3, Item{2, 1})
	holds(t, w, till{3, 9}, till{0, 4}, till{5, 3}, till{9, 3})
	tell(t, w, 2, 1, shown(0, 0, 1), shown(5, 1, 1), shown(9, 0, 1))
	tell(t, w, 1, 2, shown(3, 0, 2))
	holds(t, w)
}

// P16.2: who was woken by one of its objects is woken by none of the others, nor by that one again.
func TestTellOnce(t *testing.T) {
	for item := range 8 {
		w := begin(t, 2)
		block(t, w, api.OK, 1, 5, some(8)...)
		block(t, w, api.OK, 2, 6, some(8)...)
		tell(t, w, item+1, 1, shown(1, item, 1), shown(2, item, 1))
		block(t, w, api.OK, 2, 7, Item{8, 1})
		for object := 1; object <= 7; object++ {
			tell(t, w, object, -1)
			cancel(t, w, object)
		}
		expire(t, w, 6)
		tell(t, w, 8, 1, shown(2, 0, 1))
		expire(t, w, most)
	}
}

// P16.2: deadlines at the time and ahead of it have come, and no others.
func TestExpireEdges(t *testing.T) {
	for _, deadline := range strange() {
		for _, now := range strange() {
			w := begin(t, 1)
			block(t, w, api.OK, 1, deadline, Item{3, 1})
			holds(t, w, till{1, deadline})
			if deadline > now {
				expire(t, w, now)
				holds(t, w, till{1, deadline})
				tell(t, w, 3, 1, shown(1, 0, 1))
				continue
			}
			expire(t, w, now, late(1))
			holds(t, w)
			tell(t, w, 3, 1)
			cancel(t, w, 3)
		}
	}
}

// P16.2: those whose deadline has come are told by rising deadlines, those of one deadline by rising numbers, in whatever order they blocked.
func TestExpireOrder(t *testing.T) {
	deadlines := strange()
	threads := strangeThreads()
	for turn := range threads {
		w := begin(t, 100)
		for i := range threads {
			block(t, w, api.OK, threads[(i*4+turn)%len(threads)], 7, Item{1, 1})
		}
		var want []Woken
		for _, thread := range threads {
			want = append(want, late(thread))
		}
		expire(t, w, 6)
		expire(t, w, 7, want...)
		holds(t, w)
	}
	for turn := range deadlines {
		w := begin(t, 100)
		for i := range deadlines {
			at := (i*7 + turn) % len(deadlines)
			// The sooner the deadline, the greater the thread's number.
			block(t, w, api.OK, 100-at, deadlines[at], Item{1, 1})
		}
		var want []Woken
		for at := range deadlines {
			want = append(want, late(100-at))
		}
		at := slices.Index(deadlines, 2)
		expire(t, w, 2, want[:at+1]...)
		expire(t, w, most, want[at+1:]...)
		holds(t, w)
	}
}

// P16.2: those whose deadline has not come go on waiting, in the order in which they blocked; time may also go back.
func TestExpireLeft(t *testing.T) {
	w := begin(t, 6)
	block(t, w, api.OK, 5, 30, Item{1, 1})
	block(t, w, api.OK, 2, 10, Item{1, 1})
	block(t, w, api.OK, 4, 20, Item{1, 1}, Item{2, 1})
	block(t, w, api.OK, 3, 10, Item{2, 1})
	block(t, w, api.OK, 1, 25, Item{1, 1})
	expire(t, w, 9)
	expire(t, w, 19, late(2), late(3))
	expire(t, w, 19)
	holds(t, w, till{5, 30}, till{4, 20}, till{1, 25})
	expire(t, w, 5)
	block(t, w, api.OK, 2, 5, Item{1, 1})
	expire(t, w, 4)
	expire(t, w, 5, late(2))
	tell(t, w, 2, 1, shown(4, 1, 1))
	tell(t, w, 1, 1, shown(5, 0, 1), shown(1, 0, 1))
}

// P16.2: Cancel wakes all who wait for the object, whatever their masks, with the first item of it.
func TestCancel(t *testing.T) {
	w := begin(t, 6)
	block(t, w, api.OK, 9, 1, Item{4, 1}, Item{1, 0}, Item{1, 1})
	block(t, w, api.OK, 3, 9, Item{1, 2})
	block(t, w, api.OK, 0, 4, Item{2, 1})
	block(t, w, api.OK, 8, 7, Item{2, 1}, Item{3, 1}, Item{1, -1})
	block(t, w, api.OK, 5, 3, Item{1, 1}, Item{2, 1}, Item{1, 1})
	for _, object := range append(noObjects(), 5, 6, 1<<32+1, most) {
		cancel(t, w, object)
	}
	cancel(t, w, 1, canceled(9, 1), canceled(3, 0), canceled(8, 2), canceled(5, 0))
	cancel(t, w, 1)
	cancel(t, w, 4)
	cancel(t, w, 3)
	holds(t, w, till{0, 4})
	block(t, w, api.OK, 5, 3, Item{1, 1}, Item{2, 1})
	cancel(t, w, 2, canceled(0, 0), canceled(5, 1))
	holds(t, w)
	for item := range 8 {
		block(t, w, api.OK, 7, 3, some(8)...)
		cancel(t, w, item+1, canceled(7, item))
		holds(t, w)
	}
}

// P16.2: an item whose mask is empty is met by nothing, but ended with its object.
func TestEmptyMask(t *testing.T) {
	w := begin(t, 1)
	block(t, w, api.OK, 1, 5, Item{3, 0}, Item{3, 4})
	tell(t, w, 3, 3)
	tell(t, w, 3, -1, shown(1, 1, -1))
	block(t, w, api.OK, 1, 5, Item{3, 0})
	tell(t, w, 3, -1)
	expire(t, w, 4)
	holds(t, w, till{1, 5})
	cancel(t, w, 3, canceled(1, 0))
}

// P16.3: Forget, of threads that wait and of others, at each place of the order.
func TestForget(t *testing.T) {
	threads := []int{4, 1, 7, 0}
	for gone := range threads {
		w := begin(t, 4)
		var left []till
		var woken []Woken
		for i, thread := range threads {
			block(t, w, api.OK, thread, 10-i, Item{1, 1}, Item{2, 1}, Item{1, 1})
			if i != gone {
				left = append(left, till{thread, 10 - i})
				woken = append(woken, shown(thread, 0, 1))
			}
		}
		for _, thread := range append(below0(), 2, 3, 5, 6, 8, most) {
			forget(t, w, thread, api.ErrNotFound)
		}
		forget(t, w, threads[gone], api.OK)
		forget(t, w, threads[gone], api.ErrNotFound)
		holds(t, w, left...)
		tell(t, w, 1, 1, woken...)
		tell(t, w, 2, 1)
		holds(t, w)
		forget(t, w, threads[0], api.ErrNotFound)
	}
}

// P16.3: to ask changes nothing.
func TestAsk(t *testing.T) {
	w := begin(t, 3)
	block(t, w, api.OK, most, least, Item{1, 1})
	block(t, w, api.OK, 0, most, Item{1, 1})
	block(t, w, api.OK, 1, 0, Item{1, 1})
	for range 3 {
		holds(t, w, till{most, least}, till{0, most}, till{1, 0})
	}
	expire(t, w, least, late(most))
	holds(t, w, till{0, most}, till{1, 0})
}

// spoil changes all of a list, its spare room too.
func spoil[T any](list []T, with T) {
	list = list[:cap(list)]
	for i := range list {
		list[i] = with
	}
}

// P16.1: what is handed in is neither kept nor changed.
func TestHandedIn(t *testing.T) {
	room := append(make([]Item, 0, 8), Item{1, 1}, Item{2, 2})
	for range 3 {
		w := begin(t, 3)
		items := slices.Clone(room[:cap(room)])[:2]
		block(t, w, api.OK, 1, 5, items...)
		block(t, w, api.OK, 2, 5, items...)
		if !slices.Equal(items[:8], room[:8]) {
			t.Errorf("Block: the items are %v now", items[:8])
		}
		spoil(items, Item{9, 4})
		block(t, w, api.OK, 3, 5, items...)
		tell(t, w, 9, 4, shown(3, 0, 4))
		if !slices.Equal(items, []Item{{9, 4}, {9, 4}}) {
			t.Errorf("Tell: the items are %v now", items)
		}
		tell(t, w, 2, 2, shown(1, 1, 2), shown(2, 1, 2))
		cancel(t, w, 1)
	}
}

// P16.2, P16.3: what is told is new memory: whoever changes it changes nothing else.
func TestTold(t *testing.T) {
	w := begin(t, 20)
	for thread := range 20 {
		block(t, w, api.OK, thread, 20-thread, Item{1 + thread/5, 1})
	}
	first := w.Threads()
	second := w.Threads()
	spoil(first, 77)
	if len(second) != 20 || slices.Contains(second, 77) {
		t.Errorf("Threads: %v", second)
	}
	spoil(second, 77)
	told := w.Tell(1, 1)
	spoil(told, Woken{77, 77, 77, 77})
	ended := w.Cancel(2)
	spoil(told, Woken{77, 77, 77, 77})
	if want := []Woken{canceled(5, 0), canceled(6, 0), canceled(7, 0), canceled(8, 0), canceled(9, 0)}; !slices.Equal(ended, want) {
		t.Errorf("Cancel: %v; right is %v", ended, want)
	}
	spoil(ended, Woken{77, 77, 77, 77})
	due := w.Expire(5)
	spoil(told, Woken{77, 77, 77, 77})
	spoil(ended, Woken{77, 77, 77, 77})
	if want := []Woken{late(19), late(18), late(17), late(16), late(15)}; !slices.Equal(due, want) {
		t.Errorf("Expire: %v; right is %v", due, want)
	}
	spoil(due, Woken{77, 77, 77, 77})
	holds(t, w, till{10, 10}, till{11, 9}, till{12, 8}, till{13, 7}, till{14, 6})
	tell(t, w, 3, 1, shown(10, 0, 1), shown(11, 0, 1), shown(12, 0, 1), shown(13, 0, 1), shown(14, 0, 1))
}

// P16.1 to P16.3: two waits have nothing in common.
func TestApart(t *testing.T) {
	a, b := begin(t, 1), begin(t, 1)
	block(t, a, api.OK, 1, 5, Item{1, 1})
	block(t, b, api.OK, 1, 6, Item{1, 1})
	tell(t, a, 1, 1, shown(1, 0, 1))
	holds(t, a)
	holds(t, b, till{1, 6})
	cancel(t, a, 1)
	expire(t, a, 9)
	forget(t, a, 1, api.ErrNotFound)
	holds(t, b, till{1, 6})
}

// P16.2, P16.3: of those who do not wait any more nothing is kept, in whatever way they were woken.
func TestNothingKept(t *testing.T) {
	w := begin(t, 2)
	for i := range 100 {
		block(t, w, api.OK, i, 5, Item{8*i + 1, 1}, Item{8*i + 2, 1}, Item{8*i + 1, 1})
		block(t, w, api.OK, i+1, 6, Item{8*i + 2, 1}, Item{8*i + 3, 1})
		switch i % 4 {
		case 0:
			tell(t, w, 8*i+2, 1, shown(i, 1, 1), shown(i+1, 0, 1))
		case 1:
			expire(t, w, 6, late(i), late(i+1))
		case 2:
			cancel(t, w, 8*i+2, canceled(i, 1), canceled(i+1, 0))
		case 3:
			forget(t, w, i, api.OK)
			forget(t, w, i+1, api.OK)
		}
		if len(w.threads) != 0 || len(w.lines) != 0 {
			t.Errorf("way %d: %d threads and %d lines are kept", i%4, len(w.threads), len(w.lines))
		}
	}
}

// P16.1 to P16.3: there may be as many waits as there may be slots, and not one more; all can be woken at once, or one by one.
func TestMost(t *testing.T) {
	for _, way := range []int{0, 1, 2, 3, 4, 5} {
		w := begin(t, api.MaxSlots)
		for i := range api.MaxSlots {
			// By an odd number each thread comes just once, in an order that is not theirs.
			thread := i * 40503 % api.MaxSlots
			block(t, w, api.OK, thread, thread/2, Item{1, 1}, Item{2 + thread, 1}, Item{1, 2}, Item{most, 1})
		}
		block(t, w, api.ErrNoMemory, api.MaxSlots, 5, Item{1, 1})
		block(t, w, api.ErrAlreadyExists, 0, 5, Item{1, 1})
		if got := w.Count(); got != api.MaxSlots {
			t.Errorf("Count: %d", got)
		}
		for i, thread := range w.Threads() {
			if thread != i*40503%api.MaxSlots {
				t.Fatalf("Threads: the %d. is %d", i, thread)
			}
		}
		wakeMost(t, w, way)
		holds(t, w)
		block(t, w, api.OK, api.MaxSlots, 5, Item{1, 1})
		holds(t, w, till{api.MaxSlots, 5})
	}
}

// wakeMost wakes as many as there may be in one way: by what one object of all shows, by its end, or by the deadlines, at once; or else one by one.
func wakeMost(t *testing.T, w *Waits, way int) {
	t.Helper()
	var woken, want []Woken
	switch way {
	case 0:
		woken = w.Tell(1, 2)
	case 1:
		woken = w.Cancel(most)
	case 2:
		woken = w.Expire(api.MaxSlots)
	}
	for i := range api.MaxSlots {
		thread := i * 40503 % api.MaxSlots
		switch way {
		case 0:
			want = append(want, shown(thread, 2, 2))
		case 1:
			want = append(want, canceled(thread, 3))
		case 2:
			want = append(want, late(i))
		case 3:
			tell(t, w, 2+i, 1, shown(i, 1, 1))
		case 4:
			cancel(t, w, 2+i, canceled(i, 1))
		case 5:
			forget(t, w, i, api.OK)
		}
	}
	if !slices.Equal(woken, want) {
		t.Errorf("way %d: not those that are right", way)
	}
}

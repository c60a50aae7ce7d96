package port

import (
	"slices"
	"testing"

	"jacinth/api"
	"jacinth/signal"
)

const (
	most  = 1<<63 - 1
	least = -1 << 63
)

// strange are numbers that keys, values and signals may be as well as any other.
func strange() []int {
	return []int{least, least + 1, -1<<32 - 1, -1 << 32, -api.MaxSlots, -2, -1, 0, 1, 2, 64, api.MaxSlots - 1, api.MaxSlots, 1 << 32, 1<<32 + 1, 1 << 62, most - 1, most}
}

// noObjects are numbers that no object has.
func noObjects() []int {
	return []int{least, least + 1, -1<<32 + 5, -1 << 32, -api.MaxSlots, -5, -2, -1, 0}
}

// begin makes a port, which there must be.
func begin(t *testing.T, depth, watches int) *Port {
	t.Helper()
	made := New(depth, watches)
	if made == nil {
		t.Fatalf("New(%d, %d): nil", depth, watches)
	}
	return made
}

// queue queues a user's packet, and just this status must be told.
func queue(t *testing.T, p *Port, key, value int, want api.Status) {
	t.Helper()
	if got := p.Queue(key, value); got != want {
		t.Errorf("Queue(%d, %d): %d; right is %d", key, value, got, want)
	}
}

// take takes the first packet out, which must be this one.
func take(t *testing.T, p *Port, want Packet) {
	t.Helper()
	if got, s := p.Take(); got != want || s != api.OK {
		t.Errorf("Take: %v, %d; right is %v, 0", got, s, want)
	}
}

// noTake takes a packet out where there are none.
func noTake(t *testing.T, p *Port) {
	t.Helper()
	if got, s := p.Take(); got != (Packet{}) || s != api.ErrShouldWait {
		t.Errorf("Take: %v, %d; right is nothing, %d", got, s, api.ErrShouldWait)
	}
}

// watches watches an object, and just this status must be told.
func watches(t *testing.T, p *Port, object, key int, mask signal.Set, want api.Status) {
	t.Helper()
	if got := p.Watch(object, key, mask); got != want {
		t.Errorf("Watch(%d, %d, %d): %d; right is %d", object, key, mask, got, want)
	}
}

// tell tells what an object shows, and just so many watches must fire.
func tell(t *testing.T, p *Port, object int, shows signal.Set, want int) {
	t.Helper()
	if got := p.Tell(object, shows); got != want {
		t.Errorf("Tell(%d, %d): %d; right is %d", object, shows, got, want)
	}
}

// cancel cancels, and just this status must be told.
func cancel(t *testing.T, p *Port, object, key int, want api.Status) {
	t.Helper()
	if got := p.Cancel(object, key); got != want {
		t.Errorf("Cancel(%d, %d): %d; right is %d", object, key, got, want)
	}
}

// forget forgets an object, which must have had just so many watches.
func forget(t *testing.T, p *Port, object, want int) {
	t.Helper()
	if got := p.Forget(object); got != want {
		t.Errorf("Forget(%d): %d; right is %d", object, got, want)
	}
}

// packets holds all packets of a port against those that are right.
func packets(t *testing.T, p *Port, want ...Packet) {
	t.Helper()
	if got := p.Packets(); !slices.Equal(got, want) {
		t.Errorf("Packets: %v; right is %v", got, want)
	}
	if got := p.Len(); got != len(want) {
		t.Errorf("Len: %d; right is %d", got, len(want))
	}
}

// watched holds how many watches there are against what is right: in all, and of the objects 1, 2 and so on; others have none.
func watched(t *testing.T, p *Port, of ...int) {
	t.Helper()
	sum := 0
	for i, want := range of {
		sum += want
		if got := p.Watched(i + 1); got != want {
			t.Errorf("Watched(%d): %d; right is %d", i+1, got, want)
		}
	}
	if got := p.Watches(); got != sum {
		t.Errorf("Watches: %d; right is %d", got, sum)
	}
	for _, object := range append(noObjects(), len(of)+1, len(of)+2, most) {
		if got := p.Watched(object); got != 0 {
			t.Errorf("Watched(%d): %d; right is 0", object, got)
		}
	}
}

// The chapter's examples.
func TestExamples(t *testing.T) {
	p := begin(t, 4, 4)
	watches(t, p, 5, 9, 3, api.OK)
	watches(t, p, 5, 8, 4, api.OK)
	tell(t, p, 5, 1, 1)
	packets(t, p, Packet{9, 5, 1})
	tell(t, p, 5, 1, 0)
	packets(t, p, Packet{9, 5, 1})
	cancel(t, p, 5, 9, api.OK)
	packets(t, p)
}

// P15.1: which ports there are, and that they begin empty.
func TestNew(t *testing.T) {
	for _, depth := range []int{1, 2, 3, 255, 256, 1<<15 + 1, api.MaxSlots - 1, api.MaxSlots} {
		for _, count := range []int{0, 1, 2, 255, 256, 1<<15 + 1, api.MaxSlots - 1, api.MaxSlots} {
			p := begin(t, depth, count)
			packets(t, p)
			watched(t, p)
			noTake(t, p)
		}
	}
	wrong := []int{least, least + 1, -1 << 32, -api.MaxSlots, -2, -1, api.MaxSlots + 1, 2 * api.MaxSlots, 1 << 32, 1<<32 + 1, most - 1, most}
	for _, n := range wrong {
		if New(n, 1) != nil || New(1, n) != nil || New(n, 0) != nil || New(n, n) != nil {
			t.Errorf("New of %d: not nil", n)
		}
	}
	if New(0, 0) != nil || New(0, 1) != nil || New(0, api.MaxSlots) != nil {
		t.Errorf("New of a depth of 0: not nil")
	}
}

// P15.1: packets of users stand in the order in which they were queued, with whatever key and value, and with the Source 0.
func TestQueue(t *testing.T) {
	p := begin(t, 1000, 0)
	var want []Packet
	for _, key := range strange() {
		for _, value := range strange() {
			queue(t, p, key, value, api.OK)
			want = append(want, Packet{Key: key, Source: 0, Value: value})
		}
	}
	packets(t, p, want...)
	for len(want) > 0 {
		take(t, p, want[0])
		want = want[1:]
		packets(t, p, want...)
	}
	noTake(t, p)
}

// P15.1: there may be depth packets of users at one time, and not one more.
func TestQueueFull(t *testing.T) {
	for depth := 1; depth <= 5; depth++ {
		p := begin(t, depth, 2)
		for i := range depth {
			queue(t, p, i, -i, api.OK)
		}
		for range 3 {
			queue(t, p, 7, 7, api.ErrShouldWait)
		}
		if p.Len() != depth {
			t.Errorf("Len: %d; right is %d", p.Len(), depth)
		}
		for i := range 3 * depth {
			want := Packet{i, 0, -i}
			take(t, p, want)
			queue(t, p, i+depth, -i-depth, api.OK)
			queue(t, p, 7, 7, api.ErrShouldWait)
		}
	}
}

// P15.1: packets of objects take no user's place, be they ahead of users' packets or behind them.
func TestQueueBesideObjects(t *testing.T) {
	p := begin(t, 2, 3)
	for range 3 {
		watches(t, p, 1, 10, 1, api.OK)
	}
	tell(t, p, 1, 1, 3)
	queue(t, p, 1, 1, api.OK)
	queue(t, p, 2, 2, api.OK)
	queue(t, p, 3, 3, api.ErrShouldWait)
	take(t, p, Packet{10, 1, 1})
	queue(t, p, 3, 3, api.ErrShouldWait)
	cancel(t, p, 1, 10, api.OK)
	queue(t, p, 3, 3, api.ErrShouldWait)
	packets(t, p, Packet{1, 0, 1}, Packet{2, 0, 2})
	take(t, p, Packet{1, 0, 1})
	queue(t, p, 3, 3, api.OK)
	queue(t, p, 4, 4, api.ErrShouldWait)
	packets(t, p, Packet{2, 0, 2}, Packet{3, 0, 3})
}

// P15.1, P15.2: users' packets and those of objects stand in one queue, as they came.
func TestTake(t *testing.T) {
	p := begin(t, 3, 3)
	noTake(t, p)
	watches(t, p, 6, 60, 2, api.OK)
	watches(t, p, 7, 70, 2, api.OK)
	queue(t, p, 1, 11, api.OK)
	tell(t, p, 7, 2, 1)
	queue(t, p, 2, 22, api.OK)
	tell(t, p, 6, 3, 1)
	queue(t, p, 3, 33, api.OK)
	packets(t, p, Packet{1, 0, 11}, Packet{70, 7, 2}, Packet{2, 0, 22}, Packet{60, 6, 3}, Packet{3, 0, 33})
	take(t, p, Packet{1, 0, 11})
	take(t, p, Packet{70, 7, 2})
	take(t, p, Packet{2, 0, 22})
	packets(t, p, Packet{60, 6, 3}, Packet{3, 0, 33})
	take(t, p, Packet{60, 6, 3})
	take(t, p, Packet{3, 0, 33})
	noTake(t, p)
	noTake(t, p)
	queue(t, p, 4, 44, api.OK)
	take(t, p, Packet{4, 0, 44})
	noTake(t, p)
}

// P15.2: a watch of what is no object, or for no signals, is refused, with room and with none; nothing changes.
func TestWatchWrong(t *testing.T) {
	p := begin(t, 1, 1)
	refuse := func() {
		t.Helper()
		for _, object := range noObjects() {
			watches(t, p, object, 1, 1, api.ErrInvalidArgs)
			watches(t, p, object, 1, 0, api.ErrInvalidArgs)
			watches(t, p, object, 1, -1, api.ErrInvalidArgs)
		}
		for _, key := range strange() {
			watches(t, p, 1, key, 0, api.ErrInvalidArgs)
			watches(t, p, most, key, 0, api.ErrInvalidArgs)
		}
	}
	refuse()
	watched(t, p)
	watches(t, p, 1, 1, 1, api.OK)
	refuse()
	watched(t, p, 1)
	tell(t, p, 1, 1, 1)
	refuse()
	watched(t, p)
	packets(t, p, Packet{1, 1, 1})
}

// P15.2: any number above 0 may be watched, with any key, for any signals.
func TestWatchAny(t *testing.T) {
	for _, object := range []int{1, 2, 255, 256, api.MaxSlots, api.MaxSlots + 1, 1 << 32, 1<<32 + 1, most - 1, most} {
		for _, key := range strange() {
			for _, mask := range strange() {
				if mask == 0 {
					continue
				}
				p := begin(t, 1, 2)
				watches(t, p, object, key, signal.Set(mask), api.OK)
				tell(t, p, object, ^signal.Set(mask), 0)
				if p.Watched(object) != 1 || p.Watches() != 1 {
					t.Errorf("Watched: %d of %d", p.Watched(object), p.Watches())
				}
				tell(t, p, object, signal.Set(mask), 1)
				packets(t, p, Packet{key, object, mask})
			}
		}
	}
}

// P15.2: there may be so many watches and packets of objects, together, and not one more; users' packets take no place of theirs.
func TestWatchFull(t *testing.T) {
	p := begin(t, 2, 3)
	queue(t, p, 1, 1, api.OK)
	queue(t, p, 2, 2, api.OK)
	watches(t, p, 1, 10, 1, api.OK)
	watches(t, p, 1, 11, 2, api.OK)
	watches(t, p, 2, 20, 1, api.OK)
	watches(t, p, 2, 21, 1, api.ErrNoMemory)
	watches(t, p, 3, 30, 1, api.ErrNoMemory)
	watched(t, p, 2, 1)
	// A watch that fires leaves its place to its packet.
	tell(t, p, 1, 1, 1)
	watches(t, p, 1, 10, 1, api.ErrNoMemory)
	watched(t, p, 1, 1)
	tell(t, p, 1, 2, 1)
	tell(t, p, 2, 1, 1)
	watches(t, p, 1, 10, 1, api.ErrNoMemory)
	watched(t, p)
	packets(t, p, Packet{1, 0, 1}, Packet{2, 0, 2}, Packet{10, 1, 1}, Packet{11, 1, 2}, Packet{20, 2, 1})
	// A user's packet that is taken out leaves no place to a watch.
	take(t, p, Packet{1, 0, 1})
	watches(t, p, 1, 10, 1, api.ErrNoMemory)
	take(t, p, Packet{2, 0, 2})
	watches(t, p, 1, 10, 1, api.ErrNoMemory)
	take(t, p, Packet{10, 1, 1})
	watches(t, p, 3, 30, 1, api.OK)
	watches(t, p, 3, 31, 1, api.ErrNoMemory)
	watched(t, p, 0, 0, 1)
}

// P15.3: what is cancelled or forgotten leaves its place, once, be it a watch or a packet.
func TestWatchAgain(t *testing.T) {
	p := begin(t, 1, 2)
	watches(t, p, 1, 10, 1, api.OK)
	watches(t, p, 2, 20, 1, api.OK)
	tell(t, p, 1, 1, 1)
	watches(t, p, 3, 30, 1, api.ErrNoMemory)
	cancel(t, p, 1, 10, api.OK)
	watches(t, p, 3, 30, 1, api.OK)
	watches(t, p, 3, 31, 1, api.ErrNoMemory)
	cancel(t, p, 2, 20, api.OK)
	watches(t, p, 3, 31, 1, api.OK)
	watches(t, p, 3, 32, 1, api.ErrNoMemory)
	forget(t, p, 3, 2)
	forget(t, p, 3, 0)
	cancel(t, p, 3, 30, api.ErrNotFound)
	watches(t, p, 1, 10, 1, api.OK)
	watches(t, p, 1, 10, 1, api.OK)
	watches(t, p, 1, 10, 1, api.ErrNoMemory)
	watched(t, p, 2)
	tell(t, p, 1, 1, 2)
	forget(t, p, 1, 0)
	watches(t, p, 1, 10, 1, api.ErrNoMemory)
}

// P15.2: a port for no watches has none.
func TestNoWatches(t *testing.T) {
	p := begin(t, 1, 0)
	watches(t, p, 1, 1, 1, api.ErrNoMemory)
	watches(t, p, 0, 1, 1, api.ErrInvalidArgs)
	watches(t, p, 1, 1, 0, api.ErrInvalidArgs)
	queue(t, p, 1, 1, api.OK)
	watches(t, p, 1, 1, 1, api.ErrNoMemory)
	take(t, p, Packet{1, 0, 1})
	watches(t, p, 1, 1, 1, api.ErrNoMemory)
	tell(t, p, 1, 1, 0)
	forget(t, p, 1, 0)
	cancel(t, p, 1, 1, api.ErrNotFound)
	watched(t, p)
	packets(t, p)
}

// P15.2: just those watches fire whose mask meets what is shown, in the order in which they were made; the others stay, in order too.
func TestTell(t *testing.T) {
	p := begin(t, 1, 8)
	watches(t, p, 1, 5, signal.Readable, api.OK)
	watches(t, p, 2, 6, signal.Readable, api.OK)
	watches(t, p, 1, 4, signal.Writable, api.OK)
	watches(t, p, 1, 3, signal.Readable|signal.PeerClosed, api.OK)
	watches(t, p, 2, 9, signal.PeerClosed, api.OK)
	watches(t, p, 1, 2, signal.PeerClosed, api.OK)
	watches(t, p, 1, 1, signal.Writable|signal.Readable, api.OK)
	watches(t, p, 1, 0, signal.User(7), api.OK)
	tell(t, p, 1, 0, 0)
	tell(t, p, 1, signal.Signaled, 0)
	tell(t, p, 3, -1, 0)
	packets(t, p)
	watched(t, p, 6, 2)
	// The packet tells all that is shown, and not only what was waited for.
	tell(t, p, 1, signal.Readable|signal.Signaled, 3)
	first := []Packet{{5, 1, 9}, {3, 1, 9}, {1, 1, 9}}
	packets(t, p, first...)
	watched(t, p, 3, 2)
	tell(t, p, 1, signal.Readable|signal.Signaled, 0)
	tell(t, p, 1, -1, 3)
	packets(t, p, append(first, Packet{4, 1, -1}, Packet{2, 1, -1}, Packet{0, 1, -1})...)
	watched(t, p, 0, 2)
	tell(t, p, 1, -1, 0)
	tell(t, p, 2, signal.PeerClosed, 1)
	tell(t, p, 2, signal.Readable, 1)
	packets(t, p, append(first, Packet{4, 1, -1}, Packet{2, 1, -1}, Packet{0, 1, -1}, Packet{9, 2, 4}, Packet{6, 2, 1})...)
	watched(t, p)
}

// P15.2: of what is no object there are no watches, so that none fires; users' packets are no watches.
func TestTellNoObject(t *testing.T) {
	p := begin(t, 1, 1)
	watches(t, p, 1, 1, -1, api.OK)
	queue(t, p, 1, 1, api.OK)
	for _, object := range noObjects() {
		tell(t, p, object, -1, 0)
		forget(t, p, object, 0)
	}
	packets(t, p, Packet{1, 0, 1})
	watched(t, p, 1)
}

// P15.2: an object may have several watches with one key and one mask: each is one of its own, and each fires.
func TestTellTwins(t *testing.T) {
	p := begin(t, 1, 4)
	for range 3 {
		watches(t, p, 1, 7, 1, api.OK)
	}
	watches(t, p, 2, 7, 1, api.OK)
	watched(t, p, 3, 1)
	tell(t, p, 1, 1, 3)
	watched(t, p, 0, 1)
	packets(t, p, Packet{7, 1, 1}, Packet{7, 1, 1}, Packet{7, 1, 1})
	take(t, p, Packet{7, 1, 1})
	watches(t, p, 1, 7, 1, api.OK)
	watches(t, p, 1, 7, 1, api.ErrNoMemory)
	tell(t, p, 2, 1, 1)
	tell(t, p, 1, 1, 1)
	packets(t, p, Packet{7, 1, 1}, Packet{7, 1, 1}, Packet{7, 2, 1}, Packet{7, 1, 1})
}

// P15.4: a watch that was taken on fires, however full the queue is.
func TestNeverLost(t *testing.T) {
	p := begin(t, 1, 3)
	queue(t, p, 1, 1, api.OK)
	for object := 1; object <= 3; object++ {
		watches(t, p, object, object, 1, api.OK)
	}
	for object := 3; object >= 1; object-- {
		queue(t, p, 2, 2, api.ErrShouldWait)
		watches(t, p, 9, 9, 9, api.ErrNoMemory)
		tell(t, p, object, 1, 1)
	}
	packets(t, p, Packet{1, 0, 1}, Packet{3, 3, 1}, Packet{2, 2, 1}, Packet{1, 1, 1})
	queue(t, p, 2, 2, api.ErrShouldWait)
	watches(t, p, 9, 9, 9, api.ErrNoMemory)
}

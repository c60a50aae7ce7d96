package port

import (
	"testing"

	"jacinth/api"
)

// P15.3: Cancel, where nothing has both the object and the key.
func TestCancelNothing(t *testing.T) {
	p := begin(t, 4, 4)
	cancel(t, p, 1, 1, api.ErrNotFound)
	watches(t, p, 1, 10, 1, api.OK)
	watches(t, p, 2, 20, 1, api.OK)
	watches(t, p, 3, 30, 1, api.OK)
	tell(t, p, 3, 1, 1)
	queue(t, p, 10, 1, api.OK)
	queue(t, p, 40, 2, api.OK)
	// Each has the one, or the other, or Values that look like it.
	for _, w := range [][2]int{{1, 20}, {2, 10}, {1, 30}, {3, 10}, {3, 20}, {2, 30}, {1, 40}, {2, 40}, {3, 40}, {1, 1}, {3, 1}, {4, 10}, {10, 1}, {30, 3}} {
		cancel(t, p, w[0], w[1], api.ErrNotFound)
	}
	for _, object := range append(noObjects(), most) {
		for _, key := range []int{10, 20, 30, 40, 0, least, most} {
			cancel(t, p, object, key, api.ErrNotFound)
		}
	}
	for _, key := range strange() {
		cancel(t, p, 1, key, api.ErrNotFound)
		cancel(t, p, 3, key, api.ErrNotFound)
	}
	packets(t, p, Packet{30, 3, 1}, Packet{10, 0, 1}, Packet{40, 0, 2})
	watched(t, p, 1, 1)
}

// P15.3: Cancel, where watches alone have both: all of these are gone, and will not fire.
func TestCancelWatches(t *testing.T) {
	for _, key := range strange() {
		p := begin(t, 1, 5)
		watches(t, p, 1, key, 1, api.OK)
		watches(t, p, 1, 55, 1, api.OK)
		watches(t, p, 1, key, 2, api.OK)
		watches(t, p, 2, key, 1, api.OK)
		watches(t, p, 1, 44, 2, api.OK)
		cancel(t, p, 1, key, api.OK)
		watched(t, p, 2, 1)
		cancel(t, p, 1, key, api.ErrNotFound)
		packets(t, p)
		tell(t, p, 1, 3, 2)
		tell(t, p, 2, 3, 1)
		packets(t, p, Packet{55, 1, 3}, Packet{44, 1, 3}, Packet{key, 2, 3})
	}
}

// P15.3: Cancel, where packets alone have both: all of these are gone, and the others stay in order, users' packets with the key too.
func TestCancelPackets(t *testing.T) {
	for _, key := range strange() {
		p := begin(t, 2, 5)
		watches(t, p, 1, key, 1, api.OK)
		watches(t, p, 1, 55, 2, api.OK)
		watches(t, p, 1, key, 4, api.OK)
		watches(t, p, 2, key, 1, api.OK)
		queue(t, p, key, 1, api.OK)
		tell(t, p, 1, 1, 1)
		tell(t, p, 1, 2, 1)
		queue(t, p, key, 2, api.OK)
		tell(t, p, 1, 4, 1)
		tell(t, p, 2, 1, 1)
		packets(t, p, Packet{key, 0, 1}, Packet{key, 1, 1}, Packet{55, 1, 2}, Packet{key, 0, 2}, Packet{key, 1, 4}, Packet{key, 2, 1})
		cancel(t, p, 1, key, api.OK)
		packets(t, p, Packet{key, 0, 1}, Packet{55, 1, 2}, Packet{key, 0, 2}, Packet{key, 2, 1})
		cancel(t, p, 1, key, api.ErrNotFound)
		cancel(t, p, 2, key, api.OK)
		cancel(t, p, 1, 55, api.OK)
		packets(t, p, Packet{key, 0, 1}, Packet{key, 0, 2})
		take(t, p, Packet{key, 0, 1})
		take(t, p, Packet{key, 0, 2})
		noTake(t, p)
	}
}

// P15.3: Cancel, where watches and packets have both: all are gone at once.
func TestCancelBoth(t *testing.T) {
	p := begin(t, 1, 4)
	watches(t, p, 1, 10, 1, api.OK)
	watches(t, p, 1, 10, 2, api.OK)
	watches(t, p, 1, 11, 2, api.OK)
	watches(t, p, 1, 12, 1, api.OK)
	tell(t, p, 1, 1, 2)
	cancel(t, p, 1, 10, api.OK)
	packets(t, p, Packet{12, 1, 1})
	watched(t, p, 1)
	cancel(t, p, 1, 10, api.ErrNotFound)
	// Both places are free again.
	watches(t, p, 2, 20, 1, api.OK)
	watches(t, p, 2, 21, 1, api.OK)
	watches(t, p, 2, 22, 1, api.ErrNoMemory)
	tell(t, p, 1, 2, 1)
	packets(t, p, Packet{12, 1, 1}, Packet{11, 1, 2})
}

// P15.3: users' packets are of no object: no number finds them, and they stay, in order and in their places.
func TestCancelUsers(t *testing.T) {
	objects := append(noObjects(), 1, 2, 3, 7, 8, 9, most)
	for _, key := range strange() {
		p := begin(t, 3, 1)
		queue(t, p, key, 0, api.OK)
		queue(t, p, 8, 2, api.OK)
		queue(t, p, key, 3, api.OK)
		for _, object := range objects {
			cancel(t, p, object, key, api.ErrNotFound)
			cancel(t, p, object, 8, api.ErrNotFound)
		}
		packets(t, p, Packet{key, 0, 0}, Packet{8, 0, 2}, Packet{key, 0, 3})
		queue(t, p, 9, 4, api.ErrShouldWait)
		take(t, p, Packet{key, 0, 0})
		queue(t, p, 9, 4, api.OK)
		queue(t, p, 9, 5, api.ErrShouldWait)
		cancel(t, p, 0, 9, api.ErrNotFound)
		packets(t, p, Packet{8, 0, 2}, Packet{key, 0, 3}, Packet{9, 0, 4})
	}
}

// P15.3: users' packets with the key, beside watches and packets of objects with it: 0 finds none of them, the object its own alone.
func TestCancelUsersBesideObjects(t *testing.T) {
	p := begin(t, 2, 2)
	watches(t, p, 1, 7, 1, api.OK)
	watches(t, p, 1, 7, 2, api.OK)
	queue(t, p, 7, 1, api.OK)
	tell(t, p, 1, 1, 1)
	queue(t, p, 7, 3, api.OK)
	for _, object := range noObjects() {
		cancel(t, p, object, 7, api.ErrNotFound)
	}
	packets(t, p, Packet{7, 0, 1}, Packet{7, 1, 1}, Packet{7, 0, 3})
	watched(t, p, 1)
	watches(t, p, 1, 7, 1, api.ErrNoMemory)
	cancel(t, p, 1, 7, api.OK)
	cancel(t, p, 0, 7, api.ErrNotFound)
	packets(t, p, Packet{7, 0, 1}, Packet{7, 0, 3})
	watched(t, p)
	queue(t, p, 7, 4, api.ErrShouldWait)
	watches(t, p, 1, 7, 1, api.OK)
	watches(t, p, 1, 7, 1, api.OK)
	watches(t, p, 1, 7, 1, api.ErrNoMemory)
}

// P15.3: Forget: all watches of the object are gone, its packets and all others stay.
func TestForget(t *testing.T) {
	p := begin(t, 1, 6)
	forget(t, p, 1, 0)
	watches(t, p, 1, 10, 1, api.OK)
	watches(t, p, 2, 20, 1, api.OK)
	watches(t, p, 1, 11, 2, api.OK)
	watches(t, p, 1, 11, 2, api.OK)
	watches(t, p, 3, 30, 1, api.OK)
	watches(t, p, 1, 12, 4, api.OK)
	tell(t, p, 1, 1, 1)
	queue(t, p, 1, 1, api.OK)
	for _, object := range append(noObjects(), 4, 10, most) {
		forget(t, p, object, 0)
	}
	watched(t, p, 3, 1, 1)
	forget(t, p, 1, 3)
	watched(t, p, 0, 1, 1)
	forget(t, p, 1, 0)
	tell(t, p, 1, -1, 0)
	packets(t, p, Packet{10, 1, 1}, Packet{1, 0, 1})
	cancel(t, p, 1, 11, api.ErrNotFound)
	cancel(t, p, 1, 10, api.OK)
	packets(t, p, Packet{1, 0, 1})
	tell(t, p, 3, 1, 1)
	tell(t, p, 2, 1, 1)
	packets(t, p, Packet{1, 0, 1}, Packet{30, 3, 1}, Packet{20, 2, 1})
	forget(t, p, 2, 0)
	forget(t, p, 3, 0)
	watched(t, p)
}

// P15.3: an object that was forgotten, or told, may be watched again, in an order of its own.
func TestForgetAndWatch(t *testing.T) {
	p := begin(t, 1, 4)
	for _, first := range []int{9, 4, 7} {
		watches(t, p, 1, first, 1, api.OK)
		watches(t, p, 1, first-1, 1, api.OK)
		forget(t, p, 1, 2)
		watches(t, p, 1, first-2, 1, api.OK)
		watches(t, p, 1, first-3, 1, api.OK)
		watched(t, p, 2)
		tell(t, p, 1, 1, 2)
		take(t, p, Packet{first - 2, 1, 1})
		take(t, p, Packet{first - 3, 1, 1})
		noTake(t, p)
	}
}

package timer

import (
	"slices"
	"testing"

	"jacinth/api"
)

const (
	most  = 1<<63 - 1
	least = -1 << 63
)

// strangeKeys are numbers that a key may be as well as any other, rising.
func strangeKeys() []int {
	return []int{least, least + 1, -1<<32 - 1, -1 << 32, -api.MaxSlots, -2, -1, 0, 1, 2, api.MaxSlots - 1, api.MaxSlots, 1 << 32, 1<<32 + 1, api.MaxTime, api.MaxTime + 1, most - 1, most}
}

// begin makes timers, which there must be.
func begin(t *testing.T, count int) *Timers {
	t.Helper()
	made := New(count)
	if made == nil {
		t.Fatalf("New(%d): nil", count)
	}
	return made
}

// status holds a status against the one that is right.
func status(t *testing.T, want, got api.Status) {
	t.Helper()
	if got != want {
		t.Errorf("%d; right is %d", got, want)
	}
}

// set sets a deadline that is kept.
func set(t *testing.T, of *Timers, key, deadline int) {
	t.Helper()
	if due, s := of.Set(key, deadline); due || s != api.OK {
		t.Errorf("Set(%d, %d): %t, %d; right is false, 0", key, deadline, due, s)
	}
}

// setDue sets a deadline that is due at once.
func setDue(t *testing.T, of *Timers, key, deadline int) {
	t.Helper()
	if due, s := of.Set(key, deadline); !due || s != api.OK {
		t.Errorf("Set(%d, %d): %t, %d; right is true, 0", key, deadline, due, s)
	}
}

// noSet sets a deadline that must be refused.
func noSet(t *testing.T, of *Timers, key, deadline int, want api.Status) {
	t.Helper()
	if due, s := of.Set(key, deadline); due || s != want {
		t.Errorf("Set(%d, %d): %t, %d; right is false, %d", key, deadline, due, s, want)
	}
}

// advance lets the clock go on, and just these keys must be due.
func advance(t *testing.T, of *Timers, by int, want ...int) {
	t.Helper()
	if due, s := of.Advance(by); !slices.Equal(due, want) || s != api.OK {
		t.Errorf("Advance(%d): %v, %d; right is %v, 0", by, due, s, want)
	}
}

// noAdvance lets the clock go where it must not.
func noAdvance(t *testing.T, of *Timers, by int) {
	t.Helper()
	if due, s := of.Advance(by); len(due) != 0 || s != api.ErrInvalidArgs {
		t.Errorf("Advance(%d): %v, %d; right is nothing, %d", by, due, s, api.ErrInvalidArgs)
	}
}

// now holds the clock against what is right.
func now(t *testing.T, of *Timers, want int) {
	t.Helper()
	if got := of.Now(); got != want {
		t.Errorf("Now: %d; right is %d", got, want)
	}
}

// at is a key and its deadline.
type at struct {
	key, deadline int
}

// holds holds all that is told of timers' deadlines against those that are right, in their order.
func holds(t *testing.T, of *Timers, want ...at) {
	t.Helper()
	if got := of.Count(); got != len(want) {
		t.Errorf("Count: %d; right is %d", got, len(want))
	}
	var keys []int
	for _, w := range want {
		keys = append(keys, w.key)
		if got, ok := of.Deadline(w.key); got != w.deadline || !ok {
			t.Errorf("Deadline(%d): %d, %t; right is %d, true", w.key, got, ok, w.deadline)
		}
	}
	if got := of.Keys(); !slices.Equal(got, keys) {
		t.Errorf("Keys: %v; right is %v", got, keys)
	}
	first := at{}
	if len(want) > 0 {
		first = want[0]
	}
	if key, deadline, ok := of.Next(); key != first.key || deadline != first.deadline || ok != (len(want) > 0) {
		t.Errorf("Next: %d, %d, %t; right is %d, %d, %t", key, deadline, ok, first.key, first.deadline, len(want) > 0)
	}
}

// none asks for the deadline of a key that has none.
func none(t *testing.T, of *Timers, key int) {
	t.Helper()
	if got, ok := of.Deadline(key); got != 0 || ok {
		t.Errorf("Deadline(%d): %d, %t; right is 0, false", key, got, ok)
	}
}

// The chapter's examples.
func TestExamples(t *testing.T) {
	of := begin(t, 8)
	set(t, of, 5, 10)
	set(t, of, 2, 10)
	set(t, of, 9, 3)
	advance(t, of, 10, 9, 2, 5)
	setDue(t, of, 1, 10)
}

// P14.1: which timers there are, and that they begin at the time 0, with no deadline.
func TestNew(t *testing.T) {
	for _, count := range []int{0, 1, 2, 3, 255, 256, 257, 1<<15 + 1, api.MaxSlots - 1, api.MaxSlots} {
		of := begin(t, count)
		now(t, of, 0)
		holds(t, of)
		for _, key := range strangeKeys() {
			none(t, of, key)
		}
	}
	for _, count := range []int{least, least + 1, -1 << 32, -api.MaxSlots, -2, -1, api.MaxSlots + 1, 2 * api.MaxSlots, 1 << 32, 1<<32 + 1, most - 1, most} {
		if New(count) != nil {
			t.Errorf("New(%d): not nil", count)
		}
	}
}

// P14.1: a deadline is due at the clock and ahead of it, whatever the time; such a one is not kept.
func TestSetDue(t *testing.T) {
	for _, clock := range []int{0, 1, 2, 1000, 1 << 32, api.MaxTime - 1, api.MaxTime} {
		of := begin(t, 2)
		advance(t, of, clock)
		for _, deadline := range []int{least, least + 1, -api.MaxTime, -1 << 32, -2, -1, 0, clock / 2, clock - 1, clock} {
			for _, key := range strangeKeys() {
				setDue(t, of, key, deadline)
				none(t, of, key)
			}
		}
		holds(t, of)
		now(t, of, clock)
	}
}

// P14.1: a deadline behind the clock is kept, up to MaxTime; above that, it is refused.
func TestSetLater(t *testing.T) {
	for _, clock := range []int{0, 1, 1000, 1 << 32, api.MaxTime - 2} {
		for _, key := range strangeKeys() {
			of := begin(t, 1)
			advance(t, of, clock)
			for _, deadline := range []int{clock + 1, clock + 2, api.MaxTime - 1, api.MaxTime} {
				set(t, of, key, deadline)
				holds(t, of, at{key, deadline})
			}
			now(t, of, clock)
		}
	}
}

// tooLate are deadlines above MaxTime.
func tooLate() []int {
	return []int{api.MaxTime + 1, api.MaxTime + 2, 2 * api.MaxTime, 1<<62 + 1, most - 1, most}
}

// P14.1: a deadline above MaxTime is refused at every time, with room and with none, to keys with a deadline and without; nothing changes.
func TestSetTooLate(t *testing.T) {
	for _, deadline := range tooLate() {
		of := begin(t, 2)
		noSet(t, of, 1, deadline, api.ErrInvalidArgs)
		holds(t, of)
		set(t, of, 1, 5)
		noSet(t, of, 1, deadline, api.ErrInvalidArgs)
		noSet(t, of, 2, deadline, api.ErrInvalidArgs)
		holds(t, of, at{1, 5})
		set(t, of, 2, 5)
		noSet(t, of, 2, deadline, api.ErrInvalidArgs)
		noSet(t, of, 3, deadline, api.ErrInvalidArgs)
		holds(t, of, at{1, 5}, at{2, 5})
		advance(t, of, api.MaxTime, 1, 2)
		noSet(t, of, 1, deadline, api.ErrInvalidArgs)
		holds(t, of)
	}
}

// P14.1: once there are so many deadlines, no other key gets one, till there is room again; a key that has one gets another, and what is due is told.
func TestSetFull(t *testing.T) {
	of := begin(t, 2)
	set(t, of, 1, 10)
	set(t, of, 2, 20)
	noSet(t, of, 3, 5, api.ErrNoMemory)
	noSet(t, of, 3, api.MaxTime, api.ErrNoMemory)
	none(t, of, 3)
	holds(t, of, at{1, 10}, at{2, 20})
	set(t, of, 1, 30)
	set(t, of, 2, 40)
	holds(t, of, at{1, 30}, at{2, 40})
	setDue(t, of, 3, 0)
	holds(t, of, at{1, 30}, at{2, 40})
	setDue(t, of, 1, 0)
	holds(t, of, at{2, 40})
	set(t, of, 3, 40)
	noSet(t, of, 1, 40, api.ErrNoMemory)
	status(t, api.OK, of.Cancel(2))
	set(t, of, 1, 40)
	holds(t, of, at{1, 40}, at{3, 40})
	noSet(t, of, 2, 41, api.ErrNoMemory)
	advance(t, of, 40, 1, 3)
	set(t, of, 2, 41)
	set(t, of, 3, 41)
	noSet(t, of, 1, 42, api.ErrNoMemory)
	holds(t, of, at{2, 41}, at{3, 41})
}

// P14.1: timers of no deadline at all keep none, but they tell what is due, and what is above MaxTime.
func TestNoRoom(t *testing.T) {
	of := begin(t, 0)
	for _, key := range strangeKeys() {
		noSet(t, of, key, 1, api.ErrNoMemory)
		noSet(t, of, key, api.MaxTime, api.ErrNoMemory)
		noSet(t, of, key, api.MaxTime+1, api.ErrInvalidArgs)
		setDue(t, of, key, 0)
		setDue(t, of, key, least)
		status(t, api.ErrNotFound, of.Cancel(key))
		none(t, of, key)
	}
	holds(t, of)
	advance(t, of, 7)
	now(t, of, 7)
	setDue(t, of, 1, 7)
	noSet(t, of, 1, 8, api.ErrNoMemory)
}

// P14.1: a key has one deadline alone: another takes the place of the first, be it ahead of it or behind it.
func TestSetAnother(t *testing.T) {
	of := begin(t, 3)
	set(t, of, 1, 10)
	set(t, of, 2, 20)
	set(t, of, 3, 30)
	set(t, of, 1, 40)
	holds(t, of, at{2, 20}, at{3, 30}, at{1, 40})
	set(t, of, 3, 5)
	holds(t, of, at{3, 5}, at{2, 20}, at{1, 40})
	set(t, of, 2, 20)
	holds(t, of, at{3, 5}, at{2, 20}, at{1, 40})
	set(t, of, 3, 20)
	holds(t, of, at{2, 20}, at{3, 20}, at{1, 40})
	advance(t, of, 10)
	advance(t, of, 10, 2, 3)
	holds(t, of, at{1, 40})
	setDue(t, of, 1, 20)
	advance(t, of, 100)
	holds(t, of)
}

// P14.1: Cancel: of keys with a deadline, and of those that have none, none yet and none any more.
func TestCancel(t *testing.T) {
	of := begin(t, 4)
	for _, key := range strangeKeys() {
		status(t, api.ErrNotFound, of.Cancel(key))
		set(t, of, key, 10)
		status(t, api.OK, of.Cancel(key))
		none(t, of, key)
		status(t, api.ErrNotFound, of.Cancel(key))
		holds(t, of)
	}
	set(t, of, 1, 10)
	set(t, of, 2, 20)
	set(t, of, 3, 30)
	status(t, api.ErrNotFound, of.Cancel(0))
	status(t, api.ErrNotFound, of.Cancel(10))
	holds(t, of, at{1, 10}, at{2, 20}, at{3, 30})
	status(t, api.OK, of.Cancel(2))
	holds(t, of, at{1, 10}, at{3, 30})
	advance(t, of, 10, 1)
	status(t, api.ErrNotFound, of.Cancel(1))
	setDue(t, of, 3, 10)
	status(t, api.ErrNotFound, of.Cancel(3))
	advance(t, of, 90)
}

// P14.2: the clock goes on by just what is said, and never back.
func TestAdvanceClock(t *testing.T) {
	of := begin(t, 1)
	sum := 0
	for _, by := range []int{0, 1, 0, 2, 1000, 1 << 31, 1 << 32, 1 << 39} {
		advance(t, of, by)
		sum += by
		now(t, of, sum)
	}
	advance(t, of, api.MaxTime-sum)
	now(t, of, api.MaxTime)
	advance(t, of, 0)
	now(t, of, api.MaxTime)
}

// P14.2: a step back, and a step over MaxTime, are refused, and nothing is due by them.
func TestAdvanceTooFar(t *testing.T) {
	for _, clock := range []int{0, 1, 2, 1000, 1 << 32, api.MaxTime - 2} {
		of := begin(t, 2)
		advance(t, of, clock)
		set(t, of, 1, clock+1)
		set(t, of, 2, api.MaxTime)
		left := api.MaxTime - clock
		for _, by := range []int{least, least + 1, -api.MaxTime - 1, -api.MaxTime, -clock - 1, -2, -1, left + 1, left + 2, api.MaxTime + 1, 2 * api.MaxTime, most - clock, most - 1, most} {
			noAdvance(t, of, by)
			now(t, of, clock)
		}
		holds(t, of, at{1, clock + 1}, at{2, api.MaxTime})
		advance(t, of, left, 1, 2)
		noAdvance(t, of, 1)
		noAdvance(t, of, -1)
		noAdvance(t, of, most)
		now(t, of, api.MaxTime)
	}
}

// P14.2: what is due is due in just the step in which the clock comes to it, once.
func TestAdvanceDue(t *testing.T) {
	of := begin(t, 8)
	set(t, of, 1, 3)
	set(t, of, 2, 4)
	set(t, of, 3, 6)
	set(t, of, 4, api.MaxTime)
	advance(t, of, 0)
	advance(t, of, 2)
	advance(t, of, 1, 1)
	none(t, of, 1)
	advance(t, of, 0)
	holds(t, of, at{2, 4}, at{3, 6}, at{4, api.MaxTime})
	advance(t, of, 3, 2, 3)
	holds(t, of, at{4, api.MaxTime})
	advance(t, of, api.MaxTime-7)
	advance(t, of, 1, 4)
	holds(t, of)
	setDue(t, of, 4, api.MaxTime)
}

// P14.2: what is due at one time comes by rising deadlines, that of one deadline by rising keys, whatever the keys.
func TestAdvanceOrder(t *testing.T) {
	keys := strangeKeys()
	for turn := range len(keys) {
		of := begin(t, len(keys))
		for i := range keys {
			set(t, of, keys[(i*5+turn)%len(keys)], 9)
		}
		advance(t, of, 8)
		advance(t, of, 1, keys...)
		holds(t, of)
	}
	// The greater the key, the sooner its deadline: the keys' order is none.
	of := begin(t, len(keys))
	for i, key := range keys {
		set(t, of, key, 100-i)
	}
	back := slices.Clone(keys)
	slices.Reverse(back)
	if got := of.Keys(); !slices.Equal(got, back) {
		t.Errorf("Keys: %v; right is %v", got, back)
	}
	advance(t, of, 100, back...)
}

// P14.3: Deadline, Next, Count and Keys of deadlines of strange keys, and that asking changes nothing.
func TestAsk(t *testing.T) {
	of := begin(t, 5)
	holds(t, of)
	set(t, of, most, 7)
	set(t, of, least, 8)
	set(t, of, 0, 7)
	set(t, of, -1, 8)
	set(t, of, 1, api.MaxTime)
	for range 3 {
		holds(t, of, at{0, 7}, at{most, 7}, at{least, 8}, at{-1, 8}, at{1, api.MaxTime})
		none(t, of, 7)
		none(t, of, most-1)
		none(t, of, least+1)
		now(t, of, 0)
	}
	advance(t, of, 7, 0, most)
	holds(t, of, at{least, 8}, at{-1, 8}, at{1, api.MaxTime})
	now(t, of, 7)
}

// P14.1: there may be as many deadlines as there may be slots, and not one more; all can be due in one step.
func TestMost(t *testing.T) {
	of := begin(t, api.MaxSlots)
	var want []int
	for i := range api.MaxSlots {
		// By an odd number each key comes just once, in an order that is not theirs.
		key := i * 40503 % api.MaxSlots
		set(t, of, key, 1+key%2)
		if key%2 == 0 {
			want = append(want, key)
		}
	}
	for key := 1; key < api.MaxSlots; key += 2 {
		want = append(want, key)
	}
	slices.Sort(want[:api.MaxSlots/2])
	if of.Count() != api.MaxSlots {
		t.Errorf("Count: %d", of.Count())
	}
	noSet(t, of, api.MaxSlots, 1, api.ErrNoMemory)
	noSet(t, of, -1, 9, api.ErrNoMemory)
	set(t, of, 0, 1)
	if !slices.Equal(of.Keys(), want) {
		t.Errorf("Keys: not those that are right")
	}
	if due, s := of.Advance(2); s != api.OK || !slices.Equal(due, want) {
		t.Errorf("Advance: %d keys, %d", len(due), s)
	}
	holds(t, of)
	set(t, of, -1, 9)
}

// spoil changes all of a list, its spare room too.
func spoil(list []int) {
	list = list[:cap(list)]
	for i := range list {
		list[i] = 77
	}
}

// P14.2, P14.3: what is told is new memory: whoever changes it changes nothing else.
func TestTold(t *testing.T) {
	of := begin(t, 8)
	for key := range 8 {
		set(t, of, key, 10+key/2)
	}
	first := of.Keys()
	second := of.Keys()
	spoil(first)
	if !slices.Equal(second, []int{0, 1, 2, 3, 4, 5, 6, 7}) {
		t.Errorf("Keys: %v", second)
	}
	spoil(second)
	holds(t, of, at{0, 10}, at{1, 10}, at{2, 11}, at{3, 11}, at{4, 12}, at{5, 12}, at{6, 13}, at{7, 13})
	due, _ := of.Advance(11)
	spoil(due)
	holds(t, of, at{4, 12}, at{5, 12}, at{6, 13}, at{7, 13})
	later, _ := of.Advance(1)
	spoil(due)
	if !slices.Equal(later, []int{4, 5}) {
		t.Errorf("Advance: %v", later)
	}
	spoil(later)
	set(t, of, 0, 20)
	spoil(due)
	spoil(later)
	holds(t, of, at{6, 13}, at{7, 13}, at{0, 20})
}

// P14.1 to P14.3: two timers have nothing in common.
func TestApart(t *testing.T) {
	a, b := begin(t, 1), begin(t, 1)
	set(t, a, 1, 5)
	set(t, b, 1, 6)
	advance(t, a, 5, 1)
	now(t, b, 0)
	holds(t, b, at{1, 6})
	holds(t, a)
}

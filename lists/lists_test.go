package lists

import (
	"slices"
	"testing"

	"jacinth/api"
)

const (
	most  = 1<<63 - 1
	least = -1 << 63
)

// ok holds a status against OK.
func ok(t *testing.T, s api.Status) {
	t.Helper()
	if s != api.OK {
		t.Fatalf("status %d; right is 0", s)
	}
}

// refused holds a status against the error that is right.
func refused(t *testing.T, s, want api.Status) {
	t.Helper()
	if s != want {
		t.Fatalf("status %d; right is %d", s, want)
	}
}

// filled makes lists whose queues have those items, put there one behind another.
func filled(t *testing.T, items int, queues ...[]int) *Lists {
	t.Helper()
	l := New(len(queues), items)
	for queue, list := range queues {
		for _, item := range list {
			ok(t, l.Push(queue, item))
		}
	}
	return l
}

// shape holds everything that is told of queues and items against what is right.
func shape(t *testing.T, l *Lists, items int, queues ...[]int) {
	t.Helper()
	where := slices.Repeat([]int{-1}, items)
	for queue, list := range queues {
		first := -1
		for at, item := range list {
			where[item] = queue
			if at == 0 {
				first = item
			}
		}
		if got := l.List(queue); !slices.Equal(got, list) {
			t.Fatalf("List(%d): %v; right is %v", queue, got, list)
		}
		if l.Len(queue) != len(list) || l.First(queue) != first {
			t.Fatalf("queue %d: Len %d, First %d; right is %d, %d", queue, l.Len(queue), l.First(queue), len(list), first)
		}
	}
	for item, queue := range where {
		if l.Where(item) != queue {
			t.Fatalf("Where(%d): %d; right is %d", item, l.Where(item), queue)
		}
	}
}

// drained pops all items of the queue, and holds them against those that are right.
func drained(t *testing.T, l *Lists, queue int, want ...int) {
	t.Helper()
	for _, w := range want {
		if item, s := l.Pop(queue); item != w || s != api.OK {
			t.Fatalf("Pop(%d): %d, %d; right is %d, 0", queue, item, s, w)
		}
	}
	if item, s := l.Pop(queue); item != 0 || s != api.ErrNotFound {
		t.Fatalf("Pop(%d): %d, %d; right is 0, %d", queue, item, s, api.ErrNotFound)
	}
}

// outside are numbers that are neither a queue's nor an item's where there are n of them.
func outside(n int) []int {
	return []int{least, least + 1, -n - 1, -n, -2, -1, n, n + 1, 2 * n, 2*n + 1, api.MaxSlots, 1 << 31, 1 << 32, 1<<32 + 1, most - n, most - 1, most}
}

// The chapter's example.
func TestExample(t *testing.T) {
	l := New(1, 8)
	ok(t, l.Push(0, 4))
	ok(t, l.Push(0, 2))
	ok(t, l.Front(0, 7))
	shape(t, l, 8, []int{7, 4, 2})
	ok(t, l.Remove(4))
	shape(t, l, 8, []int{7, 2})
}

// P3.1: how many queues and items there may be.
func TestNewCounts(t *testing.T) {
	right := []int{0, 1, 2, 64, api.MaxSlots - 1, api.MaxSlots}
	wrong := []int{least, least + 1, -1 << 32, -api.MaxSlots, -2, -1, api.MaxSlots + 1, 2 * api.MaxSlots, 1 << 32, most - 1, most}
	for _, queues := range right {
		for _, items := range right {
			l := New(queues, items)
			if l == nil {
				t.Fatalf("New(%d, %d): nil", queues, items)
			}
			shape(t, l, items, make([][]int, queues)...)
		}
		for _, n := range wrong {
			if New(queues, n) != nil || New(n, queues) != nil {
				t.Errorf("New(%d, %d) or New(%d, %d): lists", queues, n, n, queues)
			}
		}
	}
	for _, queues := range wrong {
		for _, items := range wrong {
			if New(queues, items) != nil {
				t.Errorf("New(%d, %d): lists", queues, items)
			}
		}
	}
}

// P3.1 to P3.3: lists without queues, and lists without items.
func TestNoQueuesOrItems(t *testing.T) {
	l := New(0, 3)
	refused(t, l.Push(0, 0), api.ErrOutOfRange)
	refused(t, l.Front(0, 2), api.ErrOutOfRange)
	refused(t, l.Remove(0), api.ErrNotFound)
	refused(t, l.Splice(0, 0), api.ErrOutOfRange)
	if item, s := l.Pop(0); item != 0 || s != api.ErrOutOfRange {
		t.Errorf("Pop: %d, %d", item, s)
	}
	shape(t, l, 3)

	l = New(2, 0)
	refused(t, l.Push(0, 0), api.ErrOutOfRange)
	refused(t, l.Front(1, 0), api.ErrOutOfRange)
	refused(t, l.Remove(0), api.ErrOutOfRange)
	ok(t, l.Splice(0, 1))
	drained(t, l, 0)
	drained(t, l, 1)
	if l.Where(0) != -1 {
		t.Errorf("Where: %d", l.Where(0))
	}
	shape(t, l, 0, nil, nil)
}

// P3.1: behind all others, and ahead of all others.
func TestPushAndFront(t *testing.T) {
	l := New(2, 6)
	ok(t, l.Push(0, 3))
	shape(t, l, 6, []int{3}, nil)
	ok(t, l.Push(0, 0))
	ok(t, l.Push(0, 5))
	shape(t, l, 6, []int{3, 0, 5}, nil)
	ok(t, l.Front(1, 2))
	shape(t, l, 6, []int{3, 0, 5}, []int{2})
	ok(t, l.Front(1, 1))
	ok(t, l.Front(0, 4))
	shape(t, l, 6, []int{4, 3, 0, 5}, []int{1, 2})
	drained(t, l, 0, 4, 3, 0, 5)
	drained(t, l, 1, 1, 2)
	shape(t, l, 6, nil, nil)
}

// P3.1: an item that is in a queue can be put into none, whichever it is and wherever it stands there.
func TestItemInAQueue(t *testing.T) {
	queues := [][]int{{3, 0, 5}, {2}, nil}
	l := filled(t, 6, queues...)
	for queue := range queues {
		for _, item := range []int{3, 0, 5, 2} {
			refused(t, l.Push(queue, item), api.ErrAlreadyExists)
			refused(t, l.Front(queue, item), api.ErrAlreadyExists)
		}
	}
	shape(t, l, 6, queues...)
	// No such queue is told first.
	refused(t, l.Push(3, 0), api.ErrOutOfRange)
	refused(t, l.Front(-1, 0), api.ErrOutOfRange)
	drained(t, l, 0, 3, 0, 5)
	ok(t, l.Front(1, 0))
	shape(t, l, 6, nil, []int{0, 2}, nil)
}

// P3.1 to P3.3: numbers that are no queue's and no item's, in every place, with items in queues and without.
func TestWrongNumbers(t *testing.T) {
	for _, queues := range [][][]int{{nil, nil, nil}, {{3, 0}, nil, {1}}, {{3, 2}, {0}, {1}}} {
		l := filled(t, 4, queues...)
		for _, item := range outside(4) {
			for queue := range queues {
				refused(t, l.Push(queue, item), api.ErrOutOfRange)
				refused(t, l.Front(queue, item), api.ErrOutOfRange)
			}
			refused(t, l.Remove(item), api.ErrOutOfRange)
			if l.Where(item) != -1 {
				t.Errorf("Where(%d): %d", item, l.Where(item))
			}
		}
		for _, queue := range outside(3) {
			noQueue(t, l, queue)
		}
		shape(t, l, 4, queues...)
	}
}

// noQueue asks everything of a queue that is none, where there are three queues.
func noQueue(t *testing.T, l *Lists, queue int) {
	t.Helper()
	for _, item := range []int{0, 1, 2, 3, -1, 4} {
		refused(t, l.Push(queue, item), api.ErrOutOfRange)
		refused(t, l.Front(queue, item), api.ErrOutOfRange)
	}
	if item, s := l.Pop(queue); item != 0 || s != api.ErrOutOfRange {
		t.Errorf("Pop(%d): %d, %d", queue, item, s)
	}
	for other := range 3 {
		refused(t, l.Splice(other, queue), api.ErrOutOfRange)
		refused(t, l.Splice(queue, other), api.ErrOutOfRange)
	}
	refused(t, l.Splice(queue, queue), api.ErrOutOfRange)
	refused(t, l.Splice(queue, -1), api.ErrOutOfRange)
	if l.First(queue) != -1 || l.Len(queue) != 0 || len(l.List(queue)) != 0 {
		t.Errorf("queue %d: First %d, Len %d, List %v", queue, l.First(queue), l.Len(queue), l.List(queue))
	}
}

// P3.2: the first item goes, and may be put into a queue again.
func TestPop(t *testing.T) {
	l := filled(t, 5, []int{2, 4, 0}, []int{1})
	if item, s := l.Pop(0); item != 2 || s != api.OK {
		t.Fatalf("Pop: %d, %d", item, s)
	}
	shape(t, l, 5, []int{4, 0}, []int{1})
	refused(t, l.Remove(2), api.ErrNotFound)
	ok(t, l.Push(0, 2))
	shape(t, l, 5, []int{4, 0, 2}, []int{1})
	drained(t, l, 1, 1)
	drained(t, l, 1)
	ok(t, l.Push(1, 3))
	shape(t, l, 5, []int{4, 0, 2}, []int{3})
	drained(t, l, 0, 4, 0, 2)
	// The item 0 is told beside OK too: it is not nothing.
	ok(t, l.Push(0, 0))
	drained(t, l, 0, 0)
}

// P3.2: an item goes from wherever it stands, the others stay in their order.
func TestRemove(t *testing.T) {
	list := []int{5, 1, 4, 0}
	for at, item := range list {
		l := filled(t, 6, list, []int{3})
		ok(t, l.Remove(item))
		rest := slices.Delete(slices.Clone(list), at, at+1)
		shape(t, l, 6, rest, []int{3})
		refused(t, l.Remove(item), api.ErrNotFound)
		refused(t, l.Remove(2), api.ErrNotFound)
		shape(t, l, 6, rest, []int{3})
		ok(t, l.Push(0, item))
		shape(t, l, 6, append(rest, item), []int{3})
		ok(t, l.Remove(3))
		shape(t, l, 6, append(rest, item), nil)
		ok(t, l.Front(1, 3))
		shape(t, l, 6, append(rest, item), []int{3})
	}
}

// P3.2: all items of one queue go behind those of another, which have their ends still.
func TestSplice(t *testing.T) {
	rows := []struct{ to, from, want []int }{
		{nil, nil, nil},
		{nil, []int{2}, []int{2}},
		{nil, []int{2, 0, 3}, []int{2, 0, 3}},
		{[]int{1}, nil, []int{1}},
		{[]int{4, 1}, nil, []int{4, 1}},
		{[]int{1}, []int{0}, []int{1, 0}},
		{[]int{4, 1}, []int{2, 0, 3}, []int{4, 1, 2, 0, 3}},
		{[]int{1, 4, 0}, []int{3, 2}, []int{1, 4, 0, 3, 2}},
	}
	for _, r := range rows {
		l := filled(t, 8, r.to, []int{5}, r.from)
		ok(t, l.Splice(0, 2))
		shape(t, l, 8, r.want, []int{5}, nil)
		ok(t, l.Push(0, 6))
		ok(t, l.Front(2, 7))
		shape(t, l, 8, append(slices.Clone(r.want), 6), []int{5}, []int{7})
		ok(t, l.Splice(2, 0))
		want := append([]int{7}, append(slices.Clone(r.want), 6)...)
		shape(t, l, 8, nil, []int{5}, want)
		for at, item := range want {
			ok(t, l.Remove(item))
			shape(t, l, 8, nil, []int{5}, want[at+1:])
		}
		drained(t, l, 0)
		drained(t, l, 1, 5)
		drained(t, l, 2)
	}
}

// P3.2: a queue does not go behind itself, whether it has items or not.
func TestSpliceWithItself(t *testing.T) {
	l := filled(t, 4, []int{2, 0, 3}, nil, []int{1})
	for queue := range 3 {
		refused(t, l.Splice(queue, queue), api.ErrOutOfRange)
	}
	shape(t, l, 4, []int{2, 0, 3}, nil, []int{1})
	drained(t, l, 0, 2, 0, 3)
}

// P3.3: a told list is new memory, its spare room too.
func TestListIsNewMemory(t *testing.T) {
	want := []int{4, 0, 2, 5, 1}
	l := filled(t, 7, want, nil)
	one, two := l.List(0), l.List(0)
	for i := range one[:cap(one)] {
		one[:cap(one)][i] = 6
	}
	if !slices.Equal(two, want) {
		t.Errorf("another answer: %v", two)
	}
	shape(t, l, 7, want, nil)
	drained(t, l, 0, want...)
	if !slices.Equal(two, want) {
		t.Errorf("an answer changed: %v", two)
	}
}

// A walk along a queue's links may be stopped in between, and gone anew.
func TestWalkStops(t *testing.T) {
	l := filled(t, 4, []int{3, 0, 2})
	var seen []int
	for range 2 {
		for item := range l.all(0) {
			seen = append(seen, item)
			if item == 0 {
				break
			}
		}
	}
	if !slices.Equal(seen, []int{3, 0, 3, 0}) {
		t.Errorf("seen: %v", seen)
	}
}

// Two lists know nothing of each other.
func TestListsAreApart(t *testing.T) {
	a, b := New(1, 2), New(1, 2)
	ok(t, a.Push(0, 1))
	shape(t, b, 2, nil)
	ok(t, b.Push(0, 0))
	ok(t, b.Push(0, 1))
	shape(t, a, 2, []int{1})
	ok(t, a.Remove(1))
	shape(t, b, 2, []int{0, 1})
}

// P3.1 to P3.3: all queues and items that there can be.
func TestMostQueuesAndItems(t *testing.T) {
	const last = api.MaxSlots - 1
	l := New(api.MaxSlots, api.MaxSlots)
	// Each item into the queue of its own number.
	for n := range api.MaxSlots {
		ok(t, l.Push(n, n))
	}
	for n := range api.MaxSlots {
		if l.Where(n) != n || l.First(n) != n || l.Len(n) != 1 || !slices.Equal(l.List(n), []int{n}) {
			t.Fatalf("queue %d: Where %d, First %d, Len %d, List %v", n, l.Where(n), l.First(n), l.Len(n), l.List(n))
		}
	}
	// All of them behind the last one.
	want := []int{last}
	for n := range last {
		ok(t, l.Splice(last, n))
		want = append(want, n)
	}
	all := make([][]int, api.MaxSlots)
	all[last] = want
	shape(t, l, api.MaxSlots, all...)
	refused(t, l.Push(0, api.MaxSlots), api.ErrOutOfRange)
	refused(t, l.Push(api.MaxSlots, 0), api.ErrOutOfRange)
	ok(t, l.Splice(0, last))
	drained(t, l, 0, want...)
	for n := range api.MaxSlots {
		ok(t, l.Front(last, n))
	}
	slices.Sort(want)
	slices.Reverse(want)
	all[last] = want
	shape(t, l, api.MaxSlots, all...)
}

// model is lists as the chapter's words have them: slow and plain.
type model struct {
	items  int
	queues [][]int
}

func (m *model) hasQueue(queue int) bool { return queue >= 0 && queue < len(m.queues) }

func (m *model) hasItem(item int) bool { return item >= 0 && item < m.items }

func (m *model) where(item int) int {
	return slices.IndexFunc(m.queues, func(list []int) bool { return slices.Contains(list, item) })
}

func (m *model) put(queue, item int, front bool) api.Status {
	if !m.hasQueue(queue) || !m.hasItem(item) {
		return api.ErrOutOfRange
	}
	if m.where(item) >= 0 {
		return api.ErrAlreadyExists
	}
	at := len(m.queues[queue])
	if front {
		at = 0
	}
	m.queues[queue] = slices.Insert(m.queues[queue], at, item)
	return api.OK
}

func (m *model) pop(queue int) (int, api.Status) {
	if !m.hasQueue(queue) {
		return 0, api.ErrOutOfRange
	}
	if len(m.queues[queue]) == 0 {
		return 0, api.ErrNotFound
	}
	item := m.queues[queue][0]
	m.queues[queue] = m.queues[queue][1:]
	return item, api.OK
}

func (m *model) remove(item int) api.Status {
	if !m.hasItem(item) {
		return api.ErrOutOfRange
	}
	queue := m.where(item)
	if queue < 0 {
		return api.ErrNotFound
	}
	m.queues[queue] = slices.DeleteFunc(slices.Clone(m.queues[queue]), func(other int) bool { return other == item })
	return api.OK
}

func (m *model) splice(to, from int) api.Status {
	if !m.hasQueue(to) || !m.hasQueue(from) || to == from {
		return api.ErrOutOfRange
	}
	m.queues[to] = slices.Concat(m.queues[to], m.queues[from])
	m.queues[from] = nil
	return api.OK
}

// P3.1 to P3.3: long runs against the model.
func TestAgainstModel(t *testing.T) {
	for _, queues := range []int{0, 1, 2, 3, 7} {
		for _, items := range []int{0, 1, 2, 5, 30} {
			againstModel(t, queues, items)
		}
	}
}

func againstModel(t *testing.T, queues, items int) {
	t.Helper()
	l := New(queues, items)
	m := &model{items: items, queues: make([][]int, queues)}
	seed := uint32(100*queues + items)
	draw := func(n int) int {
		seed = seed*1664525 + 1013904223
		return int(seed>>8) % n
	}
	for step := range 2000 {
		// One below and one above those that there are.
		queue, other, item := draw(queues+2)-1, draw(queues+2)-1, draw(items+2)-1
		var got, want int
		var s, ws api.Status
		call := draw(8)
		switch call {
		case 0, 1:
			s, ws = l.Push(queue, item), m.put(queue, item, false)
		case 2, 3:
			s, ws = l.Front(queue, item), m.put(queue, item, true)
		case 4:
			got, s = l.Pop(queue)
			want, ws = m.pop(queue)
		case 5:
			s, ws = l.Remove(item), m.remove(item)
		case 6:
			s, ws = l.Splice(queue, other), m.splice(queue, other)
		}
		if got != want || s != ws {
			t.Fatalf("%d queues, %d items, step %d, call %d: %d, %d; right is %d, %d", queues, items, step, call, got, s, want, ws)
		}
		shape(t, l, items, m.queues...)
	}
}

package arena

import (
	"slices"
	"testing"

	"jacinth/api"
)

const (
	most  = 1<<63 - 1
	least = -1 << 63
)

// first is the id of a slot that is taken for the first time.
func first(slot int) int { return api.MaxSlots + slot }

// alloc takes a slot, and holds its id against the one that is right.
func alloc[T any](t *testing.T, a *Arena[T], v T, want int) {
	t.Helper()
	if id, s := a.Alloc(v); id != want || s != api.OK {
		t.Fatalf("Alloc: %d, %d; right is %d, 0", id, s, want)
	}
}

// full asks for a slot where none can be taken.
func full[T any](t *testing.T, a *Arena[T], v T) {
	t.Helper()
	if id, s := a.Alloc(v); id != 0 || s != api.ErrNoMemory {
		t.Fatalf("Alloc: %d, %d; right is 0, %d", id, s, api.ErrNoMemory)
	}
}

func free[T any](t *testing.T, a *Arena[T], id int) {
	t.Helper()
	if s := a.Free(id); s != api.OK {
		t.Fatalf("Free(%d): %d", id, s)
	}
}

// held holds what is told of an id that has a value against it.
func held[T comparable](t *testing.T, a *Arena[T], id int, want T) {
	t.Helper()
	if v, ok := a.Get(id); v != want || !ok || !a.Has(id) {
		t.Fatalf("Get(%d): %v, %t; Has: %t; right is %v", id, v, ok, a.Has(id), want)
	}
}

// missing asks everything of an id that has no value, and that all of it is refused.
func missing[T comparable](t *testing.T, a *Arena[T], id int, other T) {
	t.Helper()
	var zero T
	if v, ok := a.Get(id); v != zero || ok {
		t.Errorf("Get(%d): %v, %t", id, v, ok)
	}
	if a.Has(id) {
		t.Errorf("Has(%d)", id)
	}
	if s := a.Set(id, other); s != api.ErrNotFound {
		t.Errorf("Set(%d): %d", id, s)
	}
	if s := a.Free(id); s != api.ErrNotFound {
		t.Errorf("Free(%d): %d", id, s)
	}
}

// shape holds the counts and the ids against those that are right.
func shape[T any](t *testing.T, a *Arena[T], capacity int, ids ...int) {
	t.Helper()
	if a.Cap() != capacity || a.Count() != len(ids) || !slices.Equal(a.IDs(), ids) {
		t.Fatalf("Cap %d, Count %d, IDs %v; right is %d, %d, %v", a.Cap(), a.Count(), a.IDs(), capacity, len(ids), ids)
	}
}

// P2.1: which capacities there are.
func TestNewCapacities(t *testing.T) {
	for _, n := range []int{0, 1, 2, 64, api.MaxSlots - 1, api.MaxSlots} {
		a := New[int](n)
		if a == nil {
			t.Fatalf("New(%d): nil", n)
		}
		shape(t, a, n)
	}
	for _, n := range []int{-1, -2, least, least + 1, api.MaxSlots + 1, 2 * api.MaxSlots, 1 << 32, most} {
		if New[int](n) != nil {
			t.Errorf("New(%d): an arena", n)
		}
	}
}

// P2.1: an arena without slots.
func TestNoSlots(t *testing.T) {
	a := New[string](0)
	full(t, a, "x")
	for _, id := range []int{0, first(0), -1} {
		missing(t, a, id, "y")
	}
	shape(t, a, 0)
}

// The chapter's example.
func TestExample(t *testing.T) {
	a := New[string](2)
	alloc(t, a, "a", 65536)
	alloc(t, a, "b", 65537)
	full(t, a, "c")
	free(t, a, 65536)
	alloc(t, a, "d", 131072)
	missing(t, a, 65536, "e")
	held(t, a, 131072, "d")
	held(t, a, 65537, "b")
	shape(t, a, 2, 131072, 65537)
}

// P2.1: those that were freed are taken before those that never were, the last one first.
func TestOrderOfSlots(t *testing.T) {
	a := New[int](6)
	for i := range 4 {
		alloc(t, a, i, first(i))
	}
	free(t, a, first(1))
	free(t, a, first(3))
	free(t, a, first(0))
	shape(t, a, 6, first(2))
	alloc(t, a, 10, 2*api.MaxSlots)
	alloc(t, a, 11, 2*api.MaxSlots+3)
	free(t, a, first(2))
	alloc(t, a, 12, 2*api.MaxSlots+2)
	alloc(t, a, 13, 2*api.MaxSlots+1)
	alloc(t, a, 14, first(4))
	alloc(t, a, 15, first(5))
	full(t, a, 16)
	two := 2 * api.MaxSlots
	shape(t, a, 6, two, two+1, two+2, two+3, first(4), first(5))
	for id, v := range map[int]int{two: 10, two + 1: 13, two + 2: 12, two + 3: 11, first(4): 14, first(5): 15} {
		held(t, a, id, v)
	}
}

// P2.1: a refused Alloc leaves all as it was, what was freed too.
func TestFullLeavesAll(t *testing.T) {
	a := New[int](2)
	alloc(t, a, 1, first(0))
	alloc(t, a, 2, first(1))
	for range 3 {
		full(t, a, 3)
		shape(t, a, 2, first(0), first(1))
	}
	held(t, a, first(0), 1)
	held(t, a, first(1), 2)
	free(t, a, first(1))
	alloc(t, a, 4, 2*api.MaxSlots+1)
	full(t, a, 5)
}

// P2.2: ids that are no value's, among them those close to one that is.
func TestWrongIDs(t *testing.T) {
	a := New[int](4)
	alloc(t, a, 7, first(0))
	alloc(t, a, 8, first(1))
	alloc(t, a, 9, first(2))
	free(t, a, first(2))
	wrong := []int{
		least, least + 1, least + first(0), -first(0), -2, -1, 0, 1, 2, 3, 4, api.MaxSlots - 1,
		first(2), first(3), first(4), 2*api.MaxSlots - 1, 2 * api.MaxSlots, 2*api.MaxSlots + 1, 2*api.MaxSlots + 2,
		3 * api.MaxSlots, 1<<32 + first(0), 1<<46 + first(0), 1<<47 + first(1), 1<<48 + first(0), 1<<62 + first(0),
		1 << 46, 1<<46 + 1, 1<<46 + 1<<16, most - 1, most,
	}
	for _, id := range wrong {
		missing(t, a, id, 100)
	}
	shape(t, a, 4, first(0), first(1))
	held(t, a, first(0), 7)
	held(t, a, first(1), 8)
	alloc(t, a, 10, 2*api.MaxSlots+2)
	alloc(t, a, 11, first(3))
	full(t, a, 12)
}

// P2.2: another value under the same id, and none behind Free.
func TestSetAndFree(t *testing.T) {
	a := New[string](3)
	alloc(t, a, "a", first(0))
	alloc(t, a, "b", first(1))
	if s := a.Set(first(0), "c"); s != api.OK {
		t.Fatalf("Set: %d", s)
	}
	held(t, a, first(0), "c")
	held(t, a, first(1), "b")
	if s := a.Set(first(0), ""); s != api.OK {
		t.Fatalf("Set: %d", s)
	}
	held(t, a, first(0), "")
	shape(t, a, 3, first(0), first(1))
	free(t, a, first(0))
	missing(t, a, first(0), "d")
	shape(t, a, 3, first(1))
	// A second Free must not put the slot among the freed ones again.
	alloc(t, a, "e", 2*api.MaxSlots)
	alloc(t, a, "f", first(2))
	full(t, a, "g")
	missing(t, a, first(0), "h")
	held(t, a, 2*api.MaxSlots, "e")
}

// P2.2: values of other types, whose zero values are told where there is none.
func TestTypesOfValues(t *testing.T) {
	type pair struct {
		name string
		at   [3]int
	}
	pairs := New[pair](1)
	alloc(t, pairs, pair{"p", [3]int{1, 2, 3}}, first(0))
	held(t, pairs, first(0), pair{"p", [3]int{1, 2, 3}})
	missing(t, pairs, first(1), pair{})
	free(t, pairs, first(0))
	missing(t, pairs, first(0), pair{"q", [3]int{}})

	pointers := New[*pair](1)
	one := &pair{name: "one"}
	alloc(t, pointers, one, first(0))
	held(t, pointers, first(0), one)
	missing(t, pointers, 2*api.MaxSlots, one)
	free(t, pointers, first(0))
	alloc(t, pointers, nil, 2*api.MaxSlots)
	held(t, pointers, 2*api.MaxSlots, nil)

	lists := New[[]int](1)
	alloc(t, lists, []int{4, 5}, first(0))
	if v, ok := lists.Get(first(0)); !slices.Equal(v, []int{4, 5}) || !ok {
		t.Errorf("Get: %v, %t", v, ok)
	}
	free(t, lists, first(0))
	if v, ok := lists.Get(first(0)); v != nil || ok {
		t.Errorf("Get: %v, %t", v, ok)
	}

	calls := New[func() int](1)
	alloc(t, calls, func() int { return 6 }, first(0))
	if v, ok := calls.Get(first(0)); !ok || v() != 6 {
		t.Errorf("Get: another function, or none, %t", ok)
	}

	anything := New[any](2)
	alloc(t, anything, any(nil), first(0))
	held(t, anything, first(0), any(nil))
	alloc(t, anything, any("s"), first(1))
	held(t, anything, first(1), any("s"))
}

// P2.3: what an id is made of.
func TestPartsOfIDs(t *testing.T) {
	rows := []struct{ id, slot, generation int }{
		{0, 0, 0}, {1, 1, 0}, {65535, 65535, 0}, {65536, 0, 1}, {65537, 1, 1}, {131071, 65535, 1}, {131072, 0, 2},
		{1 << 32, 0, 1 << 16}, {1<<46 - 1, 65535, 1<<30 - 1}, {1 << 46, 0, 1 << 30}, {1<<46 + 65535, 65535, 1 << 30},
		{most - 65535, 0, 1<<47 - 1}, {most, 65535, 1<<47 - 1},
		{-1, -1, -1}, {-2, -1, -1}, {-65536, -1, -1}, {-65537, -1, -1}, {least + 1, -1, -1}, {least, -1, -1},
	}
	for _, r := range rows {
		if Slot(r.id) != r.slot || Generation(r.id) != r.generation {
			t.Errorf("%d: %d, %d; right is %d, %d", r.id, Slot(r.id), Generation(r.id), r.slot, r.generation)
		}
	}
}

// P2.3: a told list is new memory, its spare room too.
func TestIDsAreNewMemory(t *testing.T) {
	a := New[int](8)
	for i := range 5 {
		alloc(t, a, i, first(i))
	}
	free(t, a, first(2))
	one, two := a.IDs(), a.IDs()
	for i := range one[:cap(one)] {
		one[:cap(one)][i] = -1
	}
	want := []int{first(0), first(1), first(3), first(4)}
	if !slices.Equal(two, want) {
		t.Errorf("another answer: %v", two)
	}
	shape(t, a, 8, want...)
	alloc(t, a, 9, 2*api.MaxSlots+2)
}

// Two arenas, of one type or of two, know nothing of each other.
func TestArenasAreApart(t *testing.T) {
	a, b, c := New[int](1), New[int](1), New[string](1)
	alloc(t, a, 1, first(0))
	shape(t, b, 1)
	alloc(t, b, 2, first(0))
	alloc(t, c, "x", first(0))
	free(t, a, first(0))
	held(t, b, first(0), 2)
	held(t, c, first(0), "x")
	alloc(t, a, 3, 2*api.MaxSlots)
	full(t, b, 4)
}

// P2.1, P2.3: all slots that there can be.
func TestMostSlots(t *testing.T) {
	a := New[int](api.MaxSlots)
	ids := make([]int, api.MaxSlots)
	for i := range ids {
		ids[i] = first(i)
		alloc(t, a, i, ids[i])
	}
	full(t, a, -1)
	shape(t, a, api.MaxSlots, ids...)
	for i, id := range ids {
		held(t, a, id, i)
		free(t, a, id)
	}
	shape(t, a, api.MaxSlots)
	for i := range slices.Backward(ids) {
		ids[i] = 2*api.MaxSlots + i
		alloc(t, a, 3*i, ids[i])
	}
	full(t, a, -1)
	shape(t, a, api.MaxSlots, ids...)
	for i, id := range ids {
		held(t, a, id, 3*i)
		if a.Has(first(i)) {
			t.Fatalf("Has(%d), which was freed", first(i))
		}
	}
}

// model is an arena as the chapter's words have it: slow and plain.
type model struct {
	generation []int
	id         []int
	value      []int
	freed      []int
	fresh      int
}

func (m *model) alloc(v int) (int, api.Status) {
	at := m.fresh
	if n := len(m.freed); n > 0 {
		at, m.freed = m.freed[n-1], m.freed[:n-1]
	} else if m.fresh == len(m.generation) {
		return 0, api.ErrNoMemory
	} else {
		m.fresh++
	}
	m.generation[at]++
	m.id[at], m.value[at] = at+65536*m.generation[at], v
	return m.id[at], api.OK
}

func (m *model) free(id int) api.Status {
	at := slices.Index(m.id, id)
	if at < 0 || id == 0 {
		return api.ErrNotFound
	}
	m.id[at] = 0
	m.freed = append(m.freed, at)
	return api.OK
}

func (m *model) get(id int) (int, bool) {
	at := slices.Index(m.id, id)
	if at < 0 || id == 0 {
		return 0, false
	}
	return m.value[at], true
}

func (m *model) set(id, v int) api.Status {
	at := slices.Index(m.id, id)
	if at < 0 || id == 0 {
		return api.ErrNotFound
	}
	m.value[at] = v
	return api.OK
}

// ids are those of all values, by rising slots.
func (m *model) ids() []int {
	return slices.DeleteFunc(slices.Clone(m.id), func(id int) bool { return id == 0 })
}

// P2.1 to P2.4: long runs against the model, in which no id is ever told twice.
func TestAgainstModel(t *testing.T) {
	for _, capacity := range []int{0, 1, 2, 3, 7, 40} {
		a := New[int](capacity)
		m := &model{generation: make([]int, capacity), id: make([]int, capacity), value: make([]int, capacity)}
		told := map[int]int{}
		asked := []int{0, 65536, -1}
		seed := uint32(capacity + 1)
		draw := func(n int) int {
			seed = seed*1664525 + 1013904223
			return int(seed>>8) % n
		}
		for step := range 6000 {
			id := asked[draw(len(asked))]
			if n := len(asked); draw(2) == 0 {
				id = asked[n-1-draw(min(n, 2*capacity+1))]
			}
			switch draw(5) {
			case 0, 1:
				got, s := a.Alloc(step)
				want, ws := m.alloc(step)
				if got != want || s != ws {
					t.Fatalf("step %d: Alloc: %d, %d; right is %d, %d", step, got, s, want, ws)
				}
				if s == api.OK {
					told[got]++
					asked = append(asked, got)
				}
				if told[got] > 1 {
					t.Fatalf("step %d: %d is told again", step, got)
				}
			case 2:
				if s, ws := a.Free(id), m.free(id); s != ws {
					t.Fatalf("step %d: Free(%d): %d; right is %d", step, id, s, ws)
				}
			case 3:
				if s, ws := a.Set(id, -step), m.set(id, -step); s != ws {
					t.Fatalf("step %d: Set(%d): %d; right is %d", step, id, s, ws)
				}
			}
			v, ok := a.Get(id)
			if want, right := m.get(id); v != want || ok != right || a.Has(id) != right {
				t.Fatalf("step %d: Get(%d): %d, %t; right is %d, %t", step, id, v, ok, want, right)
			}
			shape(t, a, capacity, m.ids()...)
		}
	}
}

// P2.1, P2.4: a slot with its last generation is never taken again. It needs all 2^30 takes, for no call sets a generation.
func TestLastGeneration(t *testing.T) {
	if testing.Short() {
		t.Skip("2^30 takes")
	}
	const last = 1 << 30 * api.MaxSlots
	a := New[int](2)
	for want := first(0); want < last; want += api.MaxSlots {
		if id, s := a.Alloc(1); id != want || s != api.OK {
			t.Fatalf("Alloc: %d, %d; right is %d, 0", id, s, want)
		}
		if s := a.Free(want); s != api.OK {
			t.Fatalf("Free(%d): %d", want, s)
		}
	}
	alloc(t, a, 2, last)
	held(t, a, last, 2)
	alloc(t, a, 3, first(1))
	full(t, a, 4)
	free(t, a, first(1))
	shape(t, a, 2, last)
	free(t, a, last)
	missing(t, a, last, 5)
	shape(t, a, 2)
	// The slot that was freed last can't be taken, so it is the one before.
	alloc(t, a, 6, 2*api.MaxSlots+1)
	full(t, a, 7)
	shape(t, a, 2, 2*api.MaxSlots+1)
	free(t, a, 2*api.MaxSlots+1)
	alloc(t, a, 8, 3*api.MaxSlots+1)
	full(t, a, 9)
	missing(t, a, last, 10)
	missing(t, a, last+api.MaxSlots, 10)
}

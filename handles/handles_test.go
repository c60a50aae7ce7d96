package handles

import (
	"reflect"
	"slices"
	"testing"

	"jacinth/api"
	"jacinth/rights"
)

const (
	most  = 1<<63 - 1
	least = -1 << 63
)

// channel is an entry with all default rights of its type; event lacks those to read and write.
var (
	channel = Entry{Object: 65536, Kind: api.Channel, Rights: 127 | rights.Inspect}
	event   = Entry{Object: 65537, Kind: api.Event, Rights: 1 | 2 | 16 | 64 | 128}
	sealed  = Entry{Object: 65538, Kind: api.Vmo, Rights: rights.Read | rights.Map}
)

// add adds e, which must be done, and tells its value.
func add(t *testing.T, table *Table, e Entry, draw int) int {
	t.Helper()
	value, s := table.Add(e, draw)
	if s != api.OK {
		t.Fatalf("Add(%v, %d): status %d", e, draw, s)
	}
	return value
}

// three makes a table of four places, the lowest three of which hold the three entries.
func three(t *testing.T) (*Table, []int) {
	t.Helper()
	table := New(4)
	values := []int{add(t, table, channel, 1), add(t, table, event, 2), add(t, table, sealed, 3)}
	return table, values
}

// holds checks that a table has these values and entries, and no others.
func holds(t *testing.T, table *Table, values []int, entries []Entry) {
	t.Helper()
	if got := table.Values(); !slices.Equal(got, values) {
		t.Errorf("Values: %v, not %v", got, values)
	}
	if got := table.Entries(); !slices.Equal(got, entries) {
		t.Errorf("Entries: %v, not %v", got, entries)
	}
	if got := table.Count(); got != len(values) {
		t.Errorf("Count: %d, not %d", got, len(values))
	}
	if got := table.Room(); got != table.capacity-len(values) {
		t.Errorf("Room: %d, not %d", got, table.capacity-len(values))
	}
	for i, value := range values {
		if e, s := table.Get(value); e != entries[i] || s != api.OK {
			t.Errorf("Get(%d): %v, %d, not %v", value, e, s, entries[i])
		}
	}
}

// strange are numbers that are no values of any table, with value as the one that they are made from.
func strange(value int) []int {
	return []int{
		0, 1, 2, -1, -value, value - 1, value - 2, value - 3, value + 1, value ^ 1<<18, value ^ 1<<19, value ^ 1<<20, value ^ 1<<35,
		value | 1<<36, value | 1<<40, value | 1<<62, value | least, most, least, 1 << 36, 1<<36 - 1,
	}
}

// P6.1: a table has as many places as are asked for, all of them free; there is none of other capacities.
func TestNew(t *testing.T) {
	for _, capacity := range []int{0, 1, 2, 8, 65535, 65536} {
		table := New(capacity)
		if table == nil {
			t.Fatalf("New(%d): nil", capacity)
		}
		if table.Count() != 0 || table.Room() != capacity || len(table.Values()) != 0 || len(table.Entries()) != 0 || len(table.Clear()) != 0 {
			t.Errorf("New(%d): not all places are free", capacity)
		}
	}
	for _, capacity := range []int{-1, -65536, 65537, 1 << 32, most, least} {
		if New(capacity) != nil {
			t.Errorf("New(%d): not nil", capacity)
		}
	}
}

// P6.1: an entry goes to the lowest free place, whichever was freed last, and its value is of that place and the draw.
func TestAddTakesTheLowestPlace(t *testing.T) {
	table := New(6)
	var values []int
	for place := range 5 {
		value := add(t, table, channel, 7)
		if value != 3+4*place+7<<20 {
			t.Errorf("Add: %d at place %d", value, place)
		}
		values = append(values, value)
	}
	for _, place := range []int{3, 0, 2} {
		if _, s := table.Close(values[place]); s != api.OK {
			t.Fatalf("Close: %d", s)
		}
	}
	for _, place := range []int{0, 2, 3, 5} {
		if value := add(t, table, event, 1); value != 3+4*place+1<<20 {
			t.Errorf("Add: %d, not at place %d", value, place)
		}
	}
	if value, s := table.Add(event, 1); value != 0 || s != api.ErrNoMemory {
		t.Errorf("Add to a full table: %d, %d", value, s)
	}
}

// P6.1: a full table takes no more, and stays as it was.
func TestAddToAFullTable(t *testing.T) {
	none := New(0)
	if value, s := none.Add(channel, 5); value != 0 || s != api.ErrNoMemory {
		t.Errorf("Add to no places: %d, %d", value, s)
	}
	table := New(1)
	value := add(t, table, channel, 0)
	if value != 3 {
		t.Errorf("Add: %d, not 3", value)
	}
	for range 3 {
		if value, s := table.Add(event, 0); value != 0 || s != api.ErrNoMemory {
			t.Errorf("Add: %d, %d", value, s)
		}
	}
	holds(t, table, []int{3}, []Entry{channel})
}

// P6.1: there is room for just 2^16 entries, each at its own place.
func TestAddUpToTheLimit(t *testing.T) {
	table := New(api.MaxHandles)
	for place := range 1 << 16 {
		if value, s := table.Add(Entry{Object: place}, place); value != 3+4*place+place<<20 || s != api.OK {
			t.Fatalf("Add at place %d: %d, %d", place, value, s)
		}
	}
	if _, s := table.Add(channel, 0); s != api.ErrNoMemory || table.Room() != 0 || table.Count() != 1<<16 {
		t.Errorf("Add: %d, with room for %d", s, table.Room())
	}
	last := Value(65535, 65535)
	if e, s := table.Get(last); e.Object != 65535 || s != api.OK {
		t.Errorf("Get of the last: %v, %d", e, s)
	}
	for place := 1<<16 - 1; place >= 0; place -= 3 {
		if e, s := table.Close(Value(place, place)); e.Object != place || s != api.OK {
			t.Fatalf("Close at place %d: %v, %d", place, e, s)
		}
	}
	for place := 0; place < 1<<16; place += 3 {
		if value := add(t, table, channel, 9); Place(value) != place {
			t.Fatalf("Add: place %d, not %d", Place(value), place)
		}
	}
}

// P6.1: an entry may be any.
func TestAddAnyEntry(t *testing.T) {
	entries := []Entry{{}, {Object: least, Kind: least, Rights: least}, {Object: most, Kind: most, Rights: most}, {Object: -1, Kind: -1, Rights: -1}}
	table := New(4)
	var values []int
	for i, e := range entries {
		values = append(values, add(t, table, e, []int{0, -1, most, least}[i]))
	}
	if want := []int{3, 7 + 65535<<20, 11 + 65535<<20, 15}; !slices.Equal(values, want) {
		t.Errorf("Add: %v, not %v", values, want)
	}
	holds(t, table, values, entries)
}

// P6.2: Get tells what a value stands for, and nothing of what is no value.
func TestGet(t *testing.T) {
	table, values := three(t)
	holds(t, table, values, []Entry{channel, event, sealed})
	for _, value := range values {
		for _, no := range strange(value) {
			if e, s := table.Get(no); e != (Entry{}) || s != api.ErrBadHandle {
				t.Errorf("Get(%d): %v, %d", no, e, s)
			}
		}
	}
	for _, no := range []int{Value(3, 1), Value(4, 1), Value(65535, 1), Value(0, 2), Value(1, 1)} {
		if e, s := table.Get(no); e != (Entry{}) || s != api.ErrBadHandle {
			t.Errorf("Get(%d): %v, %d", no, e, s)
		}
	}
}

// P6.2: a value is none any more when its entry is closed, nor when its place holds another.
func TestGetOfAnOldValue(t *testing.T) {
	table, values := three(t)
	if _, s := table.Close(values[1]); s != api.OK {
		t.Fatalf("Close: %d", s)
	}
	if e, s := table.Get(values[1]); e != (Entry{}) || s != api.ErrBadHandle {
		t.Errorf("Get of what was closed: %v, %d", e, s)
	}
	next := add(t, table, sealed, 4)
	if e, s := table.Get(values[1]); e != (Entry{}) || s != api.ErrBadHandle {
		t.Errorf("Get of an old value: %v, %d", e, s)
	}
	holds(t, table, []int{values[0], next, values[2]}, []Entry{channel, sealed, sealed})
}

// P6.2: Find tells the entry, or the first of its statuses that applies.
func TestFind(t *testing.T) {
	table, values := three(t)
	cases := []struct {
		value, kind int
		need        rights.Rights
		e           Entry
		s           api.Status
	}{
		{values[0], api.Channel, rights.Read, channel, api.OK},
		{values[0], api.Channel, 0, channel, api.OK},
		{values[0], api.None, channel.Rights, channel, api.OK},
		{values[0], api.Channel, rights.Map, Entry{}, api.ErrAccessDenied},
		{values[0], api.None, rights.Read | rights.Manage, Entry{}, api.ErrAccessDenied},
		{values[1], api.Event, rights.Signal, event, api.OK},
		{values[1], api.Event, rights.Read, Entry{}, api.ErrAccessDenied},
		{values[1], api.EventPair, rights.Signal, Entry{}, api.ErrWrongType},
		{values[1], api.Channel, rights.Read, Entry{}, api.ErrWrongType},
		{values[1], -1, 0, Entry{}, api.ErrWrongType},
		{values[1], 12, 0, Entry{}, api.ErrWrongType},
		{values[1], api.None, rights.Same, Entry{}, api.ErrAccessDenied},
		{values[1], api.None, -1, Entry{}, api.ErrAccessDenied},
		{values[1], api.None, 1 << 20, Entry{}, api.ErrAccessDenied},
		{values[2], api.Vmo, rights.Read | rights.Map, sealed, api.OK},
		{values[2] + 1, api.Event, rights.Write, Entry{}, api.ErrBadHandle},
		{0, api.None, 0, Entry{}, api.ErrBadHandle},
		{-1, api.None, 0, Entry{}, api.ErrBadHandle},
	}
	for _, c := range cases {
		if e, s := table.Find(c.value, c.kind, c.need); e != c.e || s != c.s {
			t.Errorf("Find(%d, %d, %d): %v, %d, not %v, %d", c.value, c.kind, c.need, e, s, c.e, c.s)
		}
	}
	holds(t, table, values, []Entry{channel, event, sealed})
}

// P6.2: an entry of no type is found as of no type alone.
func TestFindOfNoType(t *testing.T) {
	table := New(1)
	value := add(t, table, Entry{Object: 4}, 0)
	if e, s := table.Find(value, api.None, 0); e.Object != 4 || s != api.OK {
		t.Errorf("Find: %v, %d", e, s)
	}
	if e, s := table.Find(value, api.Job, 0); e != (Entry{}) || s != api.ErrWrongType {
		t.Errorf("Find: %v, %d", e, s)
	}
}

// P6.3: Close frees the place and tells the entry, once.
func TestClose(t *testing.T) {
	table, values := three(t)
	for _, no := range strange(values[1]) {
		if e, s := table.Close(no); e != (Entry{}) || s != api.ErrBadHandle {
			t.Errorf("Close(%d): %v, %d", no, e, s)
		}
	}
	holds(t, table, values, []Entry{channel, event, sealed})
	if e, s := table.Close(values[1]); e != event || s != api.OK {
		t.Errorf("Close: %v, %d", e, s)
	}
	if e, s := table.Close(values[1]); e != (Entry{}) || s != api.ErrBadHandle {
		t.Errorf("Close once more: %v, %d", e, s)
	}
	holds(t, table, []int{values[0], values[2]}, []Entry{channel, sealed})
}

// P6.3: CloseMany goes on behind what is no value, and tells what was closed in the order of the values.
func TestCloseMany(t *testing.T) {
	_, v := three(t)
	cases := []struct {
		values []int
		closed []Entry
		s      api.Status
		left   []int
		rest   []Entry
	}{
		{nil, nil, api.OK, v, []Entry{channel, event, sealed}},
		{[]int{0}, nil, api.OK, v, []Entry{channel, event, sealed}},
		{[]int{0, 0, 0}, nil, api.OK, v, []Entry{channel, event, sealed}},
		{[]int{v[2], v[0]}, []Entry{sealed, channel}, api.OK, v[1:2], []Entry{event}},
		{[]int{0, v[1], 0, v[2], 0}, []Entry{event, sealed}, api.OK, v[:1], []Entry{channel}},
		{[]int{v[1], 5, v[0]}, []Entry{event, channel}, api.ErrBadHandle, v[2:], []Entry{sealed}},
		{[]int{v[1], v[1], v[0]}, []Entry{event, channel}, api.ErrBadHandle, v[2:], []Entry{sealed}},
		{[]int{-1, v[2], v[1], v[0]}, []Entry{sealed, event, channel}, api.ErrBadHandle, nil, nil},
		{[]int{v[0], v[1], v[2], most}, []Entry{channel, event, sealed}, api.ErrBadHandle, nil, nil},
		{[]int{7, least, 1}, nil, api.ErrBadHandle, v, []Entry{channel, event, sealed}},
	}
	for _, c := range cases {
		table, _ := three(t)
		if closed, s := table.CloseMany(c.values...); !slices.Equal(closed, c.closed) || s != c.s {
			t.Errorf("CloseMany(%v): %v, %d, not %v, %d", c.values, closed, s, c.closed, c.s)
		}
		holds(t, table, c.left, c.rest)
	}
}

// P6.3: Take closes all values, in their order, or none of them.
func TestTake(t *testing.T) {
	_, v := three(t)
	cases := []struct {
		values []int
		taken  []Entry
		s      api.Status
		left   []int
		rest   []Entry
	}{
		{nil, nil, api.OK, v, []Entry{channel, event, sealed}},
		{[]int{v[1]}, []Entry{event}, api.OK, []int{v[0], v[2]}, []Entry{channel, sealed}},
		{[]int{v[2], v[0]}, []Entry{sealed, channel}, api.OK, v[1:2], []Entry{event}},
		{[]int{v[2], v[1], v[0]}, []Entry{sealed, event, channel}, api.OK, nil, nil},
		{[]int{0}, nil, api.ErrBadHandle, v, []Entry{channel, event, sealed}},
		{[]int{v[0], 0}, nil, api.ErrBadHandle, v, []Entry{channel, event, sealed}},
		{[]int{v[0], v[1], 11}, nil, api.ErrBadHandle, v, []Entry{channel, event, sealed}},
		{[]int{-1, v[0]}, nil, api.ErrBadHandle, v, []Entry{channel, event, sealed}},
		{[]int{v[0], most}, nil, api.ErrBadHandle, v, []Entry{channel, event, sealed}},
		{[]int{v[1], v[1]}, nil, api.ErrBadHandle, v, []Entry{channel, event, sealed}},
		{[]int{v[2], v[0], v[2]}, nil, api.ErrBadHandle, v, []Entry{channel, event, sealed}},
		{[]int{v[0], v[1], v[2], v[0]}, nil, api.ErrBadHandle, v, []Entry{channel, event, sealed}},
	}
	for _, c := range cases {
		table, _ := three(t)
		given := slices.Clone(c.values)
		if taken, s := table.Take(given...); !slices.Equal(taken, c.taken) || s != c.s {
			t.Errorf("Take(%v): %v, %d, not %v, %d", c.values, taken, s, c.taken, c.s)
		}
		if !slices.Equal(given, c.values) {
			t.Errorf("Take(%v) changed its values: %v", c.values, given)
		}
		holds(t, table, c.left, c.rest)
	}
}

// P6.4: Duplicate adds one more entry of the object, at the lowest free place.
func TestDuplicate(t *testing.T) {
	table, values := three(t)
	value, s := table.Duplicate(values[0], rights.Read|rights.Transfer, 5)
	if value != Value(3, 5) || s != api.OK {
		t.Errorf("Duplicate: %d, %d", value, s)
	}
	fewer := Entry{Object: channel.Object, Kind: channel.Kind, Rights: rights.Read | rights.Transfer}
	holds(t, table, append(values, value), []Entry{channel, event, sealed, fewer})
}

// P6.4: Same is all rights that the entry has; there may be none at all.
func TestDuplicateOfAllAndNone(t *testing.T) {
	for _, want := range []rights.Rights{rights.Same, event.Rights, 0, rights.Duplicate} {
		table := New(2)
		value := add(t, table, event, 1)
		more, s := table.Duplicate(value, want, 65536)
		if more != 7 || s != api.OK {
			t.Errorf("Duplicate to %d: %d, %d", want, more, s)
		}
		copied := event
		if want != rights.Same {
			copied.Rights = want
		}
		holds(t, table, []int{value, more}, []Entry{event, copied})
	}
}

// P6.4: Duplicate tells the first of its statuses that applies, and changes nothing then.
func TestDuplicateRefused(t *testing.T) {
	cases := []struct {
		value int
		want  rights.Rights
		room  bool
		s     api.Status
	}{
		{Value(0, 2), rights.Same, true, api.ErrBadHandle},
		{Value(3, 1), rights.Same, true, api.ErrBadHandle},
		{0, rights.Same, true, api.ErrBadHandle},
		{least, -1, false, api.ErrBadHandle},
		{Value(2, 3), rights.Read, true, api.ErrAccessDenied},
		{Value(2, 3), rights.Same, true, api.ErrAccessDenied},
		{Value(2, 3), rights.Write, false, api.ErrAccessDenied},
		{Value(1, 2), rights.Read, true, api.ErrInvalidArgs},
		{Value(1, 2), -1, true, api.ErrInvalidArgs},
		{Value(1, 2), rights.Same | rights.Signal, true, api.ErrInvalidArgs},
		{Value(1, 2), 4096, true, api.ErrInvalidArgs},
		{Value(1, 2), rights.Read, false, api.ErrInvalidArgs},
		{Value(1, 2), rights.Signal, false, api.ErrNoMemory},
		{Value(1, 2), rights.Same, false, api.ErrNoMemory},
	}
	for _, c := range cases {
		table, values := three(t)
		entries := []Entry{channel, event, sealed}
		if !c.room {
			values = append(values, add(t, table, sealed, 0))
			entries = append(entries, sealed)
		}
		if value, s := table.Duplicate(c.value, c.want, 4); value != 0 || s != c.s {
			t.Errorf("Duplicate(%d, %d): %d, %d, not %d", c.value, c.want, value, s, c.s)
		}
		holds(t, table, values, entries)
	}
}

// P6.4: Replace closes the value first, so a full table has room for the other, at the lowest free place.
func TestReplace(t *testing.T) {
	table := New(3)
	values := []int{add(t, table, channel, 1), add(t, table, event, 2), add(t, table, sealed, 3)}
	value, e, s := table.Replace(values[1], rights.Signal, 8)
	if value != Value(1, 8) || e != (Entry{}) || s != api.OK {
		t.Errorf("Replace: %d, %v, %d", value, e, s)
	}
	fewer := Entry{Object: event.Object, Kind: event.Kind, Rights: rights.Signal}
	holds(t, table, []int{values[0], value, values[2]}, []Entry{channel, fewer, sealed})
	if _, s := table.Close(values[0]); s != api.OK {
		t.Fatalf("Close: %d", s)
	}
	moved, e, s := table.Replace(values[2], rights.Same, 3)
	if moved != Value(0, 3) || e != (Entry{}) || s != api.OK {
		t.Errorf("Replace: %d, %v, %d", moved, e, s)
	}
	holds(t, table, []int{moved, value}, []Entry{sealed, fewer})
}

// P6.4: Replace asks for no right, and may tell the same value again.
func TestReplaceWithTheSameDraw(t *testing.T) {
	table := New(1)
	value := add(t, table, sealed, 9)
	again, e, s := table.Replace(value, 0, 9)
	if again != value || e != (Entry{}) || s != api.OK {
		t.Errorf("Replace: %d, %v, %d", again, e, s)
	}
	holds(t, table, []int{value}, []Entry{{Object: sealed.Object, Kind: sealed.Kind}})
}

// P6.4: when there are no such rights, the value is gone all the same, and its entry is told.
func TestReplaceRefused(t *testing.T) {
	for _, want := range []rights.Rights{rights.Write, rights.All, -1, 4096, rights.Same | rights.Read, least} {
		table, values := three(t)
		if value, e, s := table.Replace(values[2], want, 1); value != 0 || e != sealed || s != api.ErrInvalidArgs {
			t.Errorf("Replace to %d: %d, %v, %d", want, value, e, s)
		}
		holds(t, table, values[:2], []Entry{channel, event})
	}
	table, values := three(t)
	for _, no := range strange(values[0]) {
		if value, e, s := table.Replace(no, rights.Same, 1); value != 0 || e != (Entry{}) || s != api.ErrBadHandle {
			t.Errorf("Replace(%d): %d, %v, %d", no, value, e, s)
		}
	}
	holds(t, table, values, []Entry{channel, event, sealed})
}

// P6.5: Clear tells the entries by rising places, and all places are free then.
func TestClear(t *testing.T) {
	table, values := three(t)
	if _, s := table.Close(values[0]); s != api.OK {
		t.Fatalf("Close: %d", s)
	}
	if entries := table.Clear(); !slices.Equal(entries, []Entry{event, sealed}) {
		t.Errorf("Clear: %v", entries)
	}
	holds(t, table, nil, nil)
	for _, value := range values {
		if e, s := table.Get(value); e != (Entry{}) || s != api.ErrBadHandle {
			t.Errorf("Get(%d): %v, %d", value, e, s)
		}
	}
	if entries := table.Clear(); len(entries) != 0 {
		t.Errorf("Clear of an empty table: %v", entries)
	}
	for place := range 4 {
		if value := add(t, table, sealed, 0); value != 3+4*place {
			t.Errorf("Add: %d, not at place %d", value, place)
		}
	}
	if _, s := table.Add(sealed, 0); s != api.ErrNoMemory {
		t.Errorf("Add: %d", s)
	}
}

// P6.5: values and entries stand by their places, not by when they were added, nor by their values.
func TestValuesRiseByPlaces(t *testing.T) {
	table := New(3)
	first := add(t, table, channel, 60000)
	second := add(t, table, event, 5)
	third := add(t, table, sealed, 1)
	holds(t, table, []int{first, second, third}, []Entry{channel, event, sealed})
	if _, s := table.Close(first); s != api.OK {
		t.Fatalf("Close: %d", s)
	}
	first = add(t, table, sealed, 50000)
	holds(t, table, []int{first, second, third}, []Entry{sealed, event, sealed})
}

// P6.5: a value is told of each place that a table may have, with any draw.
func TestValue(t *testing.T) {
	cases := []struct {
		place, draw, value int
	}{
		{0, 0, 3},
		{2, 5, 5242891},
		{1, 1, 1048583},
		{0, 1, 1048579},
		{65535, 0, 262143},
		{65535, 65535, 65535<<20 + 262143},
		{0, 65536, 3},
		{0, 65537, 1048579},
		{0, -1, 65535<<20 + 3},
		{0, -65536, 3},
		{0, most, 65535<<20 + 3},
		{0, least, 3},
		{0, least + 1, 1048579},
		{-1, 0, 0},
		{-1, 5, 0},
		{65536, 0, 0},
		{65536, 5, 0},
		{1 << 32, 0, 0},
		{most, 1, 0},
		{least, 1, 0},
	}
	for _, c := range cases {
		if value := Value(c.place, c.draw); value != c.value {
			t.Errorf("Value(%d, %d): %d, not %d", c.place, c.draw, value, c.value)
		}
	}
}

// P6.5: Place is the other way round, of all places.
func TestPlaceOfAllValues(t *testing.T) {
	for place := range 1 << 16 {
		for _, draw := range []int{0, 1, 4097, 65535} {
			if at := Place(Value(place, draw)); at != place {
				t.Fatalf("Place(Value(%d, %d)): %d", place, draw, at)
			}
		}
	}
}

// P6.5: what is no value has no place.
func TestPlaceOfOtherNumbers(t *testing.T) {
	cases := []struct {
		value, place int
	}{
		{3, 0}, {7, 1}, {0, -1}, {1, -1}, {2, -1}, {4, -1}, {5, -1}, {6, -1},
		{-1, -1}, {-5, -1}, {least, -1}, {least + 3, -1}, {most, -1},
		{1<<18 - 1, 65535}, {1<<18 + 3, -1}, {1<<19 + 3, -1}, {1<<18 + 1<<19 + 3, -1}, {1<<20 - 1, -1}, {1<<20 + 3, 0},
		{1<<35 + 3, 0}, {1<<36 - 1, -1}, {1<<36 - 1 - 1<<18 - 1<<19, 65535}, {1 << 36, -1}, {1<<36 + 3, -1}, {1<<37 + 3, -1}, {1<<62 + 3, -1},
	}
	for _, c := range cases {
		if place := Place(c.value); place != c.place {
			t.Errorf("Place(%d): %d, not %d", c.value, place, c.place)
		}
	}
}

// P6.6: what is told is new memory, its spare room too.
func TestNewMemory(t *testing.T) {
	spoilValues := func(l []int) {
		l = l[:cap(l)]
		for i := range l {
			l[i] = -7
		}
	}
	spoil := func(l []Entry) {
		l = l[:cap(l)]
		for i := range l {
			l[i] = Entry{-7, -7, -7}
		}
	}
	table, values := three(t)
	want := []Entry{channel, event, sealed}
	spoilValues(table.Values())
	spoil(table.Entries())
	holds(t, table, values, want)

	given := append(make([]int, 0, 8), values[0], values[1])
	room := slices.Clone(given[:8])
	taken, _ := table.Take(given...)
	if !slices.Equal(given[:8], room) {
		t.Errorf("Take wrote to its values: %v", given[:8])
	}
	spoilValues(given)
	spoil(taken)
	holds(t, table, values[2:], want[2:])
	closed, _ := table.CloseMany(values[2])
	again := add(t, table, event, 1)
	spoil(closed)
	holds(t, table, []int{again}, []Entry{event})
	cleared := table.Clear()
	again = add(t, table, sealed, 1)
	spoil(cleared)
	holds(t, table, []int{again}, []Entry{sealed})
}

// model is a table as the chapter has it, place by place.
type model struct {
	values  []int
	entries []Entry
}

func (m *model) add(e Entry, draw int) (int, api.Status) {
	for place, held := range m.values {
		if held == 0 {
			value := 3 + 4*place + (draw&65535)*(1<<20)
			m.values[place], m.entries[place] = value, e
			return value, api.OK
		}
	}
	return 0, api.ErrNoMemory
}

func (m *model) close(value int) (Entry, api.Status) {
	for place, held := range m.values {
		if held == value && value != 0 {
			m.values[place] = 0
			return m.entries[place], api.OK
		}
	}
	return Entry{}, api.ErrBadHandle
}

func (m *model) get(value int) (Entry, api.Status) {
	for place, held := range m.values {
		if held == value && value != 0 {
			return m.entries[place], api.OK
		}
	}
	return Entry{}, api.ErrBadHandle
}

func (m *model) list() (values []int, entries []Entry) {
	for place, held := range m.values {
		if held != 0 {
			values = append(values, held)
			entries = append(entries, m.entries[place])
		}
	}
	return values, entries
}

// P6.1 to P6.5: thousands of calls come to what they come to place by place.
func TestAsTheModel(t *testing.T) {
	seed := uint64(1)
	next := func(n int) int {
		seed = seed*6364136223846793005 + 1442695040888963407
		return int(seed >> 33 % uint64(n))
	}
	table, m := New(7), &model{values: make([]int, 7), entries: make([]Entry, 7)}
	pick := func() int { return Value(next(8), next(2)) }
	for step := range 60000 {
		var got, want []any
		switch value, draw := pick(), next(2); next(8) {
		case 0, 1, 2:
			e := Entry{Object: step, Kind: next(3), Rights: rights.Rights(next(8))}
			a, s := table.Add(e, draw)
			b, z := m.add(e, draw)
			got, want = []any{a, s}, []any{b, z}
		case 3, 4:
			a, s := table.Close(value)
			b, z := m.close(value)
			got, want = []any{a, s}, []any{b, z}
		case 5:
			need := rights.Rights(next(8))
			a, s := table.Duplicate(value, need, draw)
			got = []any{a, s}
			e, z := m.get(value)
			switch {
			case z != api.OK:
				want = []any{0, z}
			case e.Rights&1 == 0:
				want = []any{0, api.ErrAccessDenied}
			case e.Rights&need != need:
				want = []any{0, api.ErrInvalidArgs}
			default:
				e.Rights = need
				b, z := m.add(e, draw)
				want = []any{b, z}
			}
		case 6:
			need := rights.Rights(next(8))
			a, old, s := table.Replace(value, need, draw)
			got = []any{a, old, s}
			e, z := m.close(value)
			switch {
			case z != api.OK:
				want = []any{0, Entry{}, z}
			case e.Rights&need != need:
				want = []any{0, e, api.ErrInvalidArgs}
			default:
				e.Rights = need
				b, z := m.add(e, draw)
				want = []any{b, Entry{}, z}
			}
		case 7:
			one, two := pick(), pick()
			a, s := table.Take(value, one, two)
			got = []any{len(a), s}
			_, bad := m.get(value)
			_, worse := m.get(one)
			_, worst := m.get(two)
			want = []any{0, api.ErrBadHandle}
			if bad+worse+worst == 0 && value != one && one != two && value != two {
				want = []any{3, api.OK}
				for i, v := range []int{value, one, two} {
					if e, _ := m.close(v); e != a[i] {
						t.Fatalf("step %d: Take: %v, not %v", step, a[i], e)
					}
				}
			}
		}
		if !reflect.DeepEqual(got, want) {
			t.Fatalf("step %d: %v, not %v", step, got, want)
		}
		if step%5000 == 4999 {
			table.Clear()
			clear(m.values)
		}
		values, entries := m.list()
		holds(t, table, values, entries)
		if t.Failed() {
			t.Fatalf("step %d", step)
		}
	}
}

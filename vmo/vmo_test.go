package vmo

import (
	"bytes"
	"slices"
	"testing"

	"jacinth/api"
)

const (
	most  = 1<<63 - 1
	least = -1 << 63
	page  = api.PageSize
)

// create makes an object, which must be want.
func create(t *testing.T, s *Set, size, want int) {
	t.Helper()
	if id, e := s.Create(size); id != want || e != api.OK {
		t.Fatalf("Create(%d): %d, %d; right is %d, 0", size, id, e, want)
	}
}

// snapshot makes a snapshot, which must be want.
func snapshot(t *testing.T, s *Set, id, at, n, want int) {
	t.Helper()
	if child, e := s.Snapshot(id, at, n); child != want || e != api.OK {
		t.Fatalf("Snapshot(%d, %d, %d): %d, %d; right is %d, 0", id, at, n, child, e, want)
	}
}

// slice makes a slice, which must be want.
func slice(t *testing.T, s *Set, id, at, n, want int) {
	t.Helper()
	if child, e := s.Slice(id, at, n); child != want || e != api.OK {
		t.Fatalf("Slice(%d, %d, %d): %d, %d; right is %d, 0", id, at, n, child, e, want)
	}
}

// drop drops an object, by which just these must end.
func drop(t *testing.T, s *Set, id int, want ...int) {
	t.Helper()
	if ended, e := s.Drop(id); !slices.Equal(ended, want) || e != api.OK {
		t.Fatalf("Drop(%d): %v, %d; right is %v, 0", id, ended, e, want)
	}
}

func write(t *testing.T, s *Set, id, at int, b []byte) {
	t.Helper()
	if e := s.Write(id, at, b); e != api.OK {
		t.Fatalf("Write(%d, %d, %d bytes): %d", id, at, len(b), e)
	}
}

func resize(t *testing.T, s *Set, id, size int) {
	t.Helper()
	if e := s.Resize(id, size); e != api.OK {
		t.Fatalf("Resize(%d, %d): %d", id, size, e)
	}
}

func op(t *testing.T, s *Set, id, op, at, n int) {
	t.Helper()
	if e := s.Op(id, op, at, n); e != api.OK {
		t.Fatalf("Op(%d, %d, %d, %d): %d", id, op, at, n, e)
	}
}

// reads holds the bytes of an object from at on against want.
func reads(t *testing.T, s *Set, id, at int, want []byte) {
	t.Helper()
	if got, e := s.Read(id, at, len(want)); !bytes.Equal(got, want) || e != api.OK {
		t.Fatalf("Read(%d, %d, %d): %v, %d; right is %v, 0", id, at, len(want), got, e, want)
	}
}

// tells holds what is told of an object against want.
func tells(t *testing.T, s *Set, id int, want Info) {
	t.Helper()
	if got, ok := s.Info(id); got != want || !ok {
		t.Fatalf("Info(%d): %+v, %t; right is %+v, true", id, got, ok, want)
	}
}

// gone asks for what is told of what has ended, or never was.
func gone(t *testing.T, s *Set, id int) {
	t.Helper()
	if got, ok := s.Info(id); got != (Info{}) || ok {
		t.Fatalf("Info(%d): %+v, %t; right is nothing", id, got, ok)
	}
}

// has holds how many objects there are, and how many frames are free, against those that are right.
func has(t *testing.T, s *Set, count, room int) {
	t.Helper()
	if s.Count() != count || s.Room() != room {
		t.Fatalf("%d objects, %d frames free; right is %d, %d", s.Count(), s.Room(), count, room)
	}
}

// refused holds the statuses of calls against the one that is right.
func refused(t *testing.T, want api.Status, got ...api.Status) {
	t.Helper()
	for i, e := range got {
		if e != want {
			t.Errorf("call %d: %d; right is %d", i, e, want)
		}
	}
}

// noChild holds what is told beside the status of a child that is not made.
func noChild(t *testing.T, want api.Status) func(child int, e api.Status) {
	return func(child int, e api.Status) {
		t.Helper()
		if child != 0 || e != want {
			t.Errorf("%d, %d; right is 0, %d", child, e, want)
		}
	}
}

// noBytes holds what is told beside the status of a Read that is refused.
func noBytes(t *testing.T, want api.Status) func(b []byte, e api.Status) {
	return func(b []byte, e api.Status) {
		t.Helper()
		if len(b) != 0 || e != want {
			t.Errorf("%v, %d; right is nothing, %d", b, e, want)
		}
	}
}

// run is n bytes, none of them 0, that begin with first.
func run(first, n int) []byte {
	b := make([]byte, n)
	for i := range b {
		b[i] = byte((first+i)%255 + 1)
	}
	return b
}

// The example of the chapter.
func TestExample(t *testing.T) {
	s := New(8, 8)
	create(t, s, 100, 1)
	tells(t, s, 1, Info{Size: 128})
	write(t, s, 1, 0, []byte("ab"))
	snapshot(t, s, 1, 0, 128, 2)
	write(t, s, 1, 0, []byte("c"))
	reads(t, s, 2, 0, []byte("ab"))
	reads(t, s, 1, 0, []byte("cb"))
	drop(t, s, 1)
	drop(t, s, 2, 2, 1)
	has(t, s, 0, 8)
}

// P8.1: a set of so many frames and objects, of which there are none; no set of other numbers.
func TestNew(t *testing.T) {
	right := []int{0, 1, 2, 64, 65535, 65536}
	wrong := []int{-1, -65536, 65537, 1 << 32, most, least}
	for _, n := range right {
		for _, m := range right {
			s := New(n, m)
			if s == nil {
				t.Fatalf("New(%d, %d): nil", n, m)
			}
			has(t, s, 0, n)
			gone(t, s, 1)
		}
		for _, m := range wrong {
			if New(n, m) != nil || New(m, n) != nil || New(m, m) != nil {
				t.Errorf("New of %d and %d: not nil", n, m)
			}
		}
	}
}

// P8.1: sizes are rounded up to whole pages, and none of them is committed.
func TestCreate(t *testing.T) {
	s := New(1, 100)
	id := 0
	for _, c := range [][2]int{{0, 0}, {1, 64}, {63, 64}, {64, 64}, {65, 128}, {100, 128}, {4096, 4096}, {1<<32 - 64, 1<<32 - 64}, {1<<32 - 63, 1 << 32}, {1<<32 - 1, 1 << 32}, {1 << 32, 1 << 32}} {
		id++
		create(t, s, c[0], id)
		tells(t, s, id, Info{Size: c[1]})
	}
	for _, size := range []int{-1, -63, -64, -1 << 32, least} {
		noChild(t, api.ErrInvalidArgs)(s.Create(size))
	}
	for _, size := range []int{1<<32 + 1, 1<<32 + 64, 1 << 62, most} {
		noChild(t, api.ErrOutOfRange)(s.Create(size))
	}
	has(t, s, id, 1)
	// What was refused has not taken a number.
	create(t, s, 5, id+1)
}

// P8.1: so many objects that have not ended as may be, and no more; numbers are not told twice.
func TestMostObjects(t *testing.T) {
	s := New(4, 3)
	create(t, s, 64, 1)
	create(t, s, 64, 2)
	create(t, s, 64, 3)
	noChild(t, api.ErrNoMemory)(s.Create(0))
	noChild(t, api.ErrNoMemory)(s.Snapshot(1, 0, 64))
	noChild(t, api.ErrNoMemory)(s.Slice(1, 0, 64))
	// A wrong size is told ahead of that.
	noChild(t, api.ErrInvalidArgs)(s.Create(-1))
	noChild(t, api.ErrOutOfRange)(s.Create(1<<32 + 1))
	for id := 1; id <= 3; id++ {
		tells(t, s, id, Info{Size: 64})
	}
	drop(t, s, 2, 2)
	create(t, s, 64, 4)
	noChild(t, api.ErrNoMemory)(s.Create(0))
	drop(t, s, 4, 4)
	slice(t, s, 3, 0, 64, 5)
	// What was dropped counts, as long as it has not ended.
	drop(t, s, 3)
	noChild(t, api.ErrNoMemory)(s.Create(0))
	drop(t, s, 5, 5, 3)
	create(t, s, 64, 6)
	create(t, s, 64, 7)
	noChild(t, api.ErrNoMemory)(s.Create(0))
	none := New(4, 0)
	noChild(t, api.ErrNoMemory)(none.Create(0))
	has(t, none, 0, 4)
}

// P8.1: all of 2^16 objects.
func TestAllObjects(t *testing.T) {
	s := New(0, api.MaxSlots)
	for id := 1; id <= api.MaxSlots; id++ {
		create(t, s, 64*id, id)
	}
	noChild(t, api.ErrNoMemory)(s.Create(64))
	has(t, s, api.MaxSlots, 0)
	drop(t, s, 40000, 40000)
	create(t, s, 1, api.MaxSlots+1)
	noChild(t, api.ErrNoMemory)(s.Create(64))
	for id := 1; id <= api.MaxSlots; id += 997 {
		tells(t, s, id, Info{Size: 64 * id})
	}
}

// missing asks every call of a number under which there is nothing to be used; right and wrong arguments beside it are one.
func missing(t *testing.T, s *Set, id int) {
	t.Helper()
	count, room := s.Count(), s.Room()
	for _, n := range []int{0, 64, 1, -1, 4097, most, least} {
		for _, at := range []int{0, 64, 1, -1, most, least} {
			noBytes(t, api.ErrNotFound)(s.Read(id, at, n))
			noChild(t, api.ErrNotFound)(s.Snapshot(id, at, n))
			noChild(t, api.ErrNotFound)(s.Slice(id, at, n))
			for _, what := range []int{1, 2, 3, 0, 4} {
				refused(t, api.ErrNotFound, s.Op(id, what, at, n))
			}
		}
		refused(t, api.ErrNotFound, s.Resize(id, n), s.Write(id, n, nil), s.Write(id, n, make([]byte, 4097)), s.Write(id, n, []byte{1}))
	}
	if ended, e := s.Drop(id); len(ended) != 0 || e != api.ErrNotFound {
		t.Errorf("Drop(%d): %v, %d", id, ended, e)
	}
	has(t, s, count, room)
}

// P8.1: numbers of no objects, of those that have ended, and of those that were dropped.
func TestNotFound(t *testing.T) {
	s := New(8, 8)
	create(t, s, 128, 1)
	create(t, s, 128, 2)
	create(t, s, 128, 3)
	write(t, s, 2, 0, run(0, 128))
	snapshot(t, s, 2, 0, 128, 4)
	slice(t, s, 2, 64, 64, 5)
	drop(t, s, 1, 1)
	for _, id := range []int{0, 1, 6, 7, 65536, 1 << 32, 1<<32 + 2, most, -1, -2, least, least + 2} {
		missing(t, s, id)
		gone(t, s, id)
	}
	drop(t, s, 2)
	missing(t, s, 2)
	tells(t, s, 2, Info{Size: 128, Children: 2, Committed: 2, Dropped: true})
	slice(t, s, 5, 0, 64, 6)
	drop(t, s, 5)
	missing(t, s, 5)
	tells(t, s, 5, Info{Size: 64, Parent: 2, Children: 1, Slice: true, Dropped: true})
	drop(t, s, 6, 6, 5)
	missing(t, s, 5)
	missing(t, s, 6)
	gone(t, s, 5)
	drop(t, s, 4, 4, 2)
	missing(t, s, 2)
	gone(t, s, 2)
	tells(t, s, 3, Info{Size: 128})
	has(t, s, 1, 8)
}

// P8.2: what was written is read at all places, across pages; what was not is 0.
func TestWriteAndRead(t *testing.T) {
	for at := 0; at <= 200; at += 7 {
		for _, n := range []int{0, 1, 2, 56, 57, 63, 64, 65, 120, 128, 129, 192} {
			s := New(8, 1)
			create(t, s, 448, 1)
			write(t, s, 1, at, run(at, n))
			want := make([]byte, 448)
			copy(want[at:], run(at, n))
			reads(t, s, 1, 0, want)
			reads(t, s, 1, at, run(at, n))
			reads(t, s, 1, 60, want[60:70])
			touched := 0
			if n > 0 {
				touched = (at+n-1)/page - at/page + 1
			}
			tells(t, s, 1, Info{Size: 448, Committed: touched})
			has(t, s, 1, 8-touched)
			write(t, s, 1, at, make([]byte, n))
			reads(t, s, 1, 0, make([]byte, 448))
			has(t, s, 1, 8-touched)
		}
	}
}

// P8.2: places and lengths that do not lie within the object, those that together are no number too.
func TestReadAndWriteOutOfRange(t *testing.T) {
	s := New(4, 4)
	create(t, s, 100, 1)
	create(t, s, 0, 2)
	write(t, s, 1, 0, run(0, 128))
	for at := -3; at <= 131; at++ {
		for _, n := range []int{0, 1, 2, 63, 64, 65, 127, 128, 129, 4096} {
			if at >= 0 && at+n <= 128 {
				reads(t, s, 1, at, run(at, n))
				continue
			}
			noBytes(t, api.ErrOutOfRange)(s.Read(1, at, n))
			refused(t, api.ErrOutOfRange, s.Write(1, at, make([]byte, n)))
		}
	}
	for _, at := range []int{least, least + 64, -1 << 32, -64, 129, 1 << 32, most - 1, most} {
		for _, n := range []int{0, 1, 64, 4096} {
			noBytes(t, api.ErrOutOfRange)(s.Read(1, at, n))
			refused(t, api.ErrOutOfRange, s.Write(1, at, make([]byte, n)))
		}
	}
	reads(t, s, 2, 0, nil)
	write(t, s, 2, 0, nil)
	write(t, s, 2, 0, []byte{})
	noBytes(t, api.ErrOutOfRange)(s.Read(2, 0, 1))
	noBytes(t, api.ErrOutOfRange)(s.Read(2, 1, 0))
	refused(t, api.ErrOutOfRange, s.Write(2, 0, []byte{1}), s.Write(2, 1, nil))
	reads(t, s, 1, 0, run(0, 128))
}

// P8.2: at most MaxMessage bytes; that there are more is told ahead of the range.
func TestMostBytes(t *testing.T) {
	s := New(130, 4)
	create(t, s, 10000, 1)
	create(t, s, 64, 2)
	for _, at := range []int{0, 1, 63, 64, 5000} {
		write(t, s, 1, at, run(at, 4096))
		reads(t, s, 1, at, run(at, 4096))
	}
	many := run(0, 4097)
	for _, id := range []int{1, 2} {
		for _, at := range []int{0, 1, 64, 65, -1, most, least} {
			noBytes(t, api.ErrInvalidArgs)(s.Read(id, at, 4097))
			noBytes(t, api.ErrInvalidArgs)(s.Read(id, at, most))
			noBytes(t, api.ErrInvalidArgs)(s.Read(id, at, -1))
			noBytes(t, api.ErrInvalidArgs)(s.Read(id, at, least))
			refused(t, api.ErrInvalidArgs, s.Write(id, at, many))
		}
	}
	noBytes(t, api.ErrOutOfRange)(s.Read(2, 0, 4096))
	refused(t, api.ErrOutOfRange, s.Write(2, 0, many[:4096]))
	reads(t, s, 1, 5000, run(5000, 4096))
	tells(t, s, 2, Info{Size: 64})
}

// P8.2: the last bytes of the greatest object.
func TestFarBytes(t *testing.T) {
	s := New(2, 3)
	create(t, s, api.MaxSize, 1)
	write(t, s, 1, api.MaxSize-2, []byte("yz"))
	reads(t, s, 1, api.MaxSize-3, []byte("\x00yz"))
	noBytes(t, api.ErrOutOfRange)(s.Read(1, api.MaxSize-1, 2))
	noBytes(t, api.ErrOutOfRange)(s.Read(1, api.MaxSize+1, 0))
	reads(t, s, 1, api.MaxSize, nil)
	slice(t, s, 1, api.MaxSize-64, 64, 2)
	reads(t, s, 2, 61, []byte("\x00yz"))
	slice(t, s, 1, 0, api.MaxSize, 3)
	write(t, s, 3, 7, []byte("a"))
	reads(t, s, 1, 7, []byte("a"))
	refused(t, api.ErrNoMemory, s.Write(3, 1<<31, []byte("b")))
	tells(t, s, 1, Info{Size: api.MaxSize, Children: 2, Committed: 2})
}

// P8.2: all pages that are touched are committed, or none is.
func TestWriteWithoutRoom(t *testing.T) {
	s := New(3, 4)
	create(t, s, 512, 1)
	refused(t, api.ErrNoMemory, s.Write(1, 63, run(0, 130)))
	has(t, s, 1, 3)
	tells(t, s, 1, Info{Size: 512})
	reads(t, s, 1, 0, make([]byte, 512))
	write(t, s, 1, 63, run(0, 129))
	has(t, s, 1, 0)
	refused(t, api.ErrNoMemory, s.Write(1, 191, run(0, 2)), s.Write(1, 511, run(0, 1)))
	write(t, s, 1, 64, run(5, 128))
	write(t, s, 1, 256, nil)
	want := make([]byte, 512)
	want[63] = 1
	copy(want[64:], run(5, 128))
	reads(t, s, 1, 0, want)
	has(t, s, 1, 0)
	// A page that is shared needs a frame as one that is not committed does.
	op(t, s, 1, 2, 0, 64)
	snapshot(t, s, 1, 64, 128, 2)
	has(t, s, 2, 1)
	refused(t, api.ErrNoMemory, s.Write(1, 127, run(0, 2)), s.Write(1, 0, run(0, 65)), s.Write(2, 63, run(9, 2)))
	tells(t, s, 1, Info{Size: 512, Children: 1, Committed: 2})
	reads(t, s, 1, 64, run(5, 128))
	reads(t, s, 2, 0, run(5, 128))
	write(t, s, 2, 0, run(99, 10))
	has(t, s, 2, 0)
	// What the other left behind has one user now.
	write(t, s, 1, 64, run(44, 10))
	reads(t, s, 2, 0, append(run(99, 10), run(15, 118)...))
	reads(t, s, 1, 64, append(run(44, 10), run(15, 118)...))
	refused(t, api.ErrNoMemory, s.Write(1, 128, []byte{1}), s.Write(2, 64, []byte{1}))
	drop(t, s, 2, 2)
	write(t, s, 1, 128, []byte{1})
	has(t, s, 1, 1)
}

// P8.3: another size, rounded up; pages behind it are released, and come back with zeros.
func TestResize(t *testing.T) {
	s := New(6, 2)
	create(t, s, 320, 1)
	write(t, s, 1, 0, run(0, 320))
	resize(t, s, 1, 129)
	tells(t, s, 1, Info{Size: 192, Committed: 3})
	has(t, s, 1, 3)
	reads(t, s, 1, 0, run(0, 192))
	noBytes(t, api.ErrOutOfRange)(s.Read(1, 192, 1))
	resize(t, s, 1, 128)
	tells(t, s, 1, Info{Size: 128, Committed: 2})
	resize(t, s, 1, 300)
	tells(t, s, 1, Info{Size: 320, Committed: 2})
	reads(t, s, 1, 0, append(run(0, 128), make([]byte, 192)...))
	resize(t, s, 1, 320)
	resize(t, s, 1, 65)
	tells(t, s, 1, Info{Size: 128, Committed: 2})
	// Bytes of the last page that are behind the size asked for stay.
	reads(t, s, 1, 0, run(0, 128))
	resize(t, s, 1, api.MaxSize)
	tells(t, s, 1, Info{Size: api.MaxSize, Committed: 2})
	write(t, s, 1, api.MaxSize-1, []byte{5})
	has(t, s, 1, 3)
	resize(t, s, 1, 0)
	tells(t, s, 1, Info{})
	has(t, s, 1, 6)
	reads(t, s, 1, 0, nil)
	resize(t, s, 1, 1)
	reads(t, s, 1, 0, make([]byte, 64))
}

// P8.3: sizes that are wrong are told ahead of slices, which are told ahead of children that are slices.
func TestResizeRefused(t *testing.T) {
	s := New(6, 8)
	create(t, s, 128, 1)
	write(t, s, 1, 0, run(0, 128))
	slice(t, s, 1, 64, 64, 2)
	slice(t, s, 2, 0, 64, 3)
	snapshot(t, s, 1, 0, 128, 4)
	for _, id := range []int{1, 2, 3, 4} {
		refused(t, api.ErrInvalidArgs, s.Resize(id, -1), s.Resize(id, -64), s.Resize(id, least))
		refused(t, api.ErrOutOfRange, s.Resize(id, 1<<32+1), s.Resize(id, most))
	}
	for _, size := range []int{0, 64, 128, 256, api.MaxSize} {
		refused(t, api.ErrNotSupported, s.Resize(2, size), s.Resize(3, size))
		refused(t, api.ErrBadState, s.Resize(1, size))
	}
	tells(t, s, 1, Info{Size: 128, Children: 2, Committed: 2})
	reads(t, s, 1, 0, run(0, 128))
	// A slice that was dropped, but has not ended, is a child still.
	drop(t, s, 2)
	refused(t, api.ErrBadState, s.Resize(1, 0))
	drop(t, s, 3, 3, 2)
	// The snapshot is no slice.
	resize(t, s, 1, 64)
	reads(t, s, 4, 0, run(0, 128))
	slice(t, s, 4, 0, 128, 5)
	refused(t, api.ErrBadState, s.Resize(4, 0))
	resize(t, s, 1, 0)
	drop(t, s, 5, 5)
	resize(t, s, 4, 64)
	tells(t, s, 4, Info{Size: 64, Parent: 1, Committed: 1})
	has(t, s, 2, 5)
}

// P8.3: what is released has a user less, and is free only when it has none.
func TestResizeOfSharedPages(t *testing.T) {
	s := New(4, 4)
	create(t, s, 256, 1)
	write(t, s, 1, 0, run(0, 256))
	snapshot(t, s, 1, 64, 128, 2)
	resize(t, s, 1, 64)
	has(t, s, 2, 1)
	reads(t, s, 2, 0, run(64, 128))
	write(t, s, 2, 0, run(9, 128))
	has(t, s, 2, 1)
	resize(t, s, 1, 256)
	reads(t, s, 1, 0, append(run(0, 64), make([]byte, 192)...))
	resize(t, s, 2, 64)
	has(t, s, 2, 2)
}

// P8.4: what can't be done is told in the promise's order.
func TestOpRefused(t *testing.T) {
	s := New(200, 4)
	create(t, s, 8192, 1)
	create(t, s, 128, 2)
	write(t, s, 2, 0, run(0, 128))
	for _, what := range []int{0, -1, 4, 5, most, least} {
		for _, at := range []int{0, 1, -64, 8192, 8256} {
			refused(t, api.ErrInvalidArgs, s.Op(1, what, at, 64), s.Op(1, what, 0, at))
		}
	}
	for _, what := range []int{1, 2} {
		for _, c := range [][2]int{{1, 64}, {0, 1}, {63, 65}, {-1, 64}, {0, -1}, {most, 64}, {8193, 64}, {0, most}, {0, 4097}, {65, 8192}, {-63, 127}} {
			refused(t, api.ErrInvalidArgs, s.Op(1, what, c[0], c[1]), s.Op(2, what, c[0], c[1]))
		}
	}
	for _, what := range []int{1, 2, 3} {
		for _, c := range [][2]int{{-64, 64}, {0, -64}, {8192, 64}, {8256, 0}, {8128, 128}, {64, 8192}, {0, 8256}, {least, 0}, {0, least}, {least, least}, {most - 63, 64}, {64, most - 63}} {
			refused(t, api.ErrOutOfRange, s.Op(1, what, c[0], c[1]))
		}
		refused(t, api.ErrOutOfRange, s.Op(2, what, 64, 128), s.Op(2, what, 0, 4160), s.Op(2, what, 192, 0))
		refused(t, api.ErrInvalidArgs, s.Op(1, what, 0, 4160), s.Op(1, what, 64, 4160), s.Op(1, what, 0, 8192))
	}
	for _, c := range [][2]int{{-1, 1}, {0, -1}, {8192, 1}, {8193, 0}, {8191, 2}, {1, 8192}, {most, 1}, {1, most}, {most, most}, {least, 1}} {
		refused(t, api.ErrOutOfRange, s.Op(1, 3, c[0], c[1]))
	}
	refused(t, api.ErrInvalidArgs, s.Op(1, 3, 0, 4097), s.Op(1, 3, 1, 4097), s.Op(1, 3, 4095, 4097))
	tells(t, s, 1, Info{Size: 8192})
	reads(t, s, 2, 0, run(0, 128))
	has(t, s, 2, 198)
	// What is just within the bounds is done.
	op(t, s, 1, 1, 4096, 4096)
	op(t, s, 1, 1, 8192, 0)
	op(t, s, 1, 2, 8192, 0)
	op(t, s, 1, 3, 8192, 0)
	op(t, s, 1, 3, 4095, 4096)
	tells(t, s, 1, Info{Size: 8192, Committed: 1})
}

// P8.4: all pages are committed, or none is; bytes stay.
func TestCommit(t *testing.T) {
	s := New(4, 4)
	create(t, s, 512, 1)
	write(t, s, 1, 130, run(0, 5))
	refused(t, api.ErrNoMemory, s.Op(1, 1, 0, 320))
	tells(t, s, 1, Info{Size: 512, Committed: 1})
	op(t, s, 1, 1, 0, 256)
	tells(t, s, 1, Info{Size: 512, Committed: 4})
	has(t, s, 1, 0)
	reads(t, s, 1, 130, run(0, 5))
	reads(t, s, 1, 0, make([]byte, 130))
	op(t, s, 1, 1, 0, 256)
	op(t, s, 1, 1, 448, 0)
	refused(t, api.ErrNoMemory, s.Op(1, 1, 0, 320), s.Op(1, 1, 256, 64))
	// Shared pages get frames of their own.
	op(t, s, 1, 2, 0, 64)
	snapshot(t, s, 1, 64, 192, 2)
	has(t, s, 2, 1)
	refused(t, api.ErrNoMemory, s.Op(1, 1, 64, 128), s.Op(2, 1, 0, 128), s.Op(1, 1, 0, 128))
	op(t, s, 2, 1, 64, 64)
	has(t, s, 2, 0)
	op(t, s, 1, 1, 128, 64)
	refused(t, api.ErrNoMemory, s.Op(1, 1, 64, 64), s.Op(2, 1, 128, 64))
	reads(t, s, 2, 66, run(0, 5))
	write(t, s, 2, 66, run(50, 5))
	reads(t, s, 1, 130, run(0, 5))
	tells(t, s, 1, Info{Size: 512, Children: 1, Committed: 3})
	tells(t, s, 2, Info{Size: 192, Parent: 1, Committed: 3})
}

// P8.4: pages that are decommitted are 0, their frames free if nobody else has them.
func TestDecommit(t *testing.T) {
	s := New(8, 4)
	create(t, s, 512, 1)
	write(t, s, 1, 0, run(0, 300))
	has(t, s, 1, 3)
	op(t, s, 1, 2, 64, 128)
	tells(t, s, 1, Info{Size: 512, Committed: 3})
	has(t, s, 1, 5)
	want := run(0, 300)
	clear(want[64:192])
	reads(t, s, 1, 0, want)
	op(t, s, 1, 2, 64, 448)
	tells(t, s, 1, Info{Size: 512, Committed: 1})
	clear(want[64:])
	reads(t, s, 1, 0, want)
	op(t, s, 1, 2, 0, 0)
	tells(t, s, 1, Info{Size: 512, Committed: 1})
	snapshot(t, s, 1, 0, 128, 2)
	op(t, s, 1, 2, 0, 512)
	has(t, s, 2, 7)
	reads(t, s, 1, 0, make([]byte, 512))
	reads(t, s, 2, 0, want[:128])
	tells(t, s, 2, Info{Size: 128, Parent: 1, Committed: 1})
	op(t, s, 2, 2, 0, 128)
	has(t, s, 2, 8)
	reads(t, s, 2, 0, make([]byte, 128))
}

// P8.4: zero at all places and lengths over pages of which one is not committed.
func TestZero(t *testing.T) {
	for at := 0; at <= 256; at++ {
		for n := 0; at+n <= 256; n++ {
			s := New(5, 1)
			create(t, s, 256, 1)
			write(t, s, 1, 0, run(0, 256))
			op(t, s, 1, 2, 64, 64)
			want := run(0, 256)
			clear(want[64:128])
			clear(want[at : at+n])
			committed := 0
			for _, p := range []int{0, 2, 3} {
				if at > p*page || at+n < (p+1)*page {
					committed++
				}
			}
			op(t, s, 1, 3, at, n)
			if got, e := s.Read(1, 0, 256); !bytes.Equal(got, want) || e != api.OK {
				t.Fatalf("zero of %d bytes from %d on: %v, %d", n, at, got, e)
			}
			if i, _ := s.Info(1); i.Committed != committed || s.Room() != 5-committed {
				t.Fatalf("zero of %d bytes from %d on: %d committed, %d free; right is %d", n, at, i.Committed, s.Room(), committed)
			}
		}
	}
}

// P8.4: what is zeroed in a shared page needs a frame of its own; what is not committed, or whole, needs none.
func TestZeroOfSharedPages(t *testing.T) {
	s := New(3, 4)
	create(t, s, 256, 1)
	write(t, s, 1, 0, run(0, 128))
	snapshot(t, s, 1, 0, 256, 2)
	has(t, s, 2, 1)
	refused(t, api.ErrNoMemory, s.Op(1, 3, 63, 2), s.Op(2, 3, 1, 126))
	reads(t, s, 1, 0, run(0, 128))
	reads(t, s, 2, 0, run(0, 128))
	has(t, s, 2, 1)
	op(t, s, 1, 3, 10, 0)
	op(t, s, 1, 3, 130, 20)
	has(t, s, 2, 1)
	tells(t, s, 1, Info{Size: 256, Children: 1, Committed: 2})
	// The first page goes, and the second one is copied.
	op(t, s, 1, 3, 0, 65)
	has(t, s, 2, 0)
	want := run(0, 128)
	clear(want[:65])
	reads(t, s, 1, 0, want)
	reads(t, s, 2, 0, run(0, 128))
	tells(t, s, 1, Info{Size: 256, Children: 1, Committed: 1})
	// Now each has what it has for itself.
	op(t, s, 2, 3, 1, 1)
	op(t, s, 1, 3, 66, 1)
	has(t, s, 2, 0)
}

// P8.4: whole pages are decommitted first of all, so that their frames are there for the others.
func TestZeroTakesWhatItFrees(t *testing.T) {
	s := New(3, 4)
	create(t, s, 192, 1)
	write(t, s, 1, 0, run(0, 192))
	snapshot(t, s, 1, 0, 64, 2)
	has(t, s, 2, 0)
	refused(t, api.ErrNoMemory, s.Op(1, 3, 1, 63), s.Op(1, 3, 1, 126))
	op(t, s, 1, 3, 1, 127)
	has(t, s, 2, 0)
	want := run(0, 192)
	clear(want[1:128])
	reads(t, s, 1, 0, want)
	reads(t, s, 2, 0, run(0, 64))
	tells(t, s, 1, Info{Size: 192, Children: 1, Committed: 2})
}

// P8.4: a zero that is refused leaves the whole pages as they were, too.
func TestZeroWithoutRoom(t *testing.T) {
	s := New(4, 4)
	create(t, s, 256, 1)
	write(t, s, 1, 0, run(0, 256))
	snapshot(t, s, 1, 0, 256, 2)
	refused(t, api.ErrNoMemory, s.Op(1, 3, 0, 65), s.Op(1, 3, 1, 254), s.Op(1, 3, 63, 193))
	// What one page sets free is not enough for two.
	op(t, s, 2, 2, 64, 64)
	has(t, s, 2, 0)
	refused(t, api.ErrNoMemory, s.Op(1, 3, 1, 190), s.Op(1, 3, 63, 67))
	for id := 1; id <= 2; id++ {
		want := run(0, 256)
		if id == 2 {
			clear(want[64:128])
		}
		reads(t, s, id, 0, want)
	}
	tells(t, s, 1, Info{Size: 256, Children: 1, Committed: 4})
	tells(t, s, 2, Info{Size: 256, Parent: 1, Committed: 3})
	has(t, s, 2, 0)
	op(t, s, 1, 3, 1, 127)
	has(t, s, 2, 0)
	reads(t, s, 2, 0, run(0, 64))
}

// P8.5: a snapshot has what its parent had; what is written to one of both is not seen by the other.
func TestSnapshot(t *testing.T) {
	s := New(20, 20)
	create(t, s, 320, 1)
	write(t, s, 1, 60, run(0, 200))
	op(t, s, 1, 2, 128, 64)
	snapshot(t, s, 1, 64, 192, 2)
	tells(t, s, 2, Info{Size: 192, Parent: 1, Committed: 2})
	tells(t, s, 1, Info{Size: 320, Children: 1, Committed: 4})
	has(t, s, 2, 16)
	had := run(4, 192)
	clear(had[64:128])
	reads(t, s, 2, 0, had)
	write(t, s, 1, 64, run(100, 192))
	reads(t, s, 2, 0, had)
	reads(t, s, 1, 64, run(100, 192))
	has(t, s, 2, 13)
	write(t, s, 2, 64, run(7, 10))
	reads(t, s, 1, 64, run(100, 192))
	reads(t, s, 2, 64, run(7, 10))
	has(t, s, 2, 12)
	// It is an object of its own: of another size, with children of its own.
	resize(t, s, 2, 512)
	snapshot(t, s, 2, 0, 512, 3)
	write(t, s, 3, 500, run(0, 12))
	reads(t, s, 2, 500, make([]byte, 12))
	tells(t, s, 3, Info{Size: 512, Parent: 2, Committed: 4})
	tells(t, s, 2, Info{Size: 512, Parent: 1, Children: 1, Committed: 3})
	snapshot(t, s, 1, 0, 0, 4)
	tells(t, s, 4, Info{Parent: 1})
	snapshot(t, s, 1, 320, 0, 5)
	tells(t, s, 1, Info{Size: 320, Children: 3, Committed: 5})
}

// P8.5: a snapshot needs no frames; one page may be of many.
func TestManySnapshots(t *testing.T) {
	s := New(3, 50)
	create(t, s, 64, 1)
	write(t, s, 1, 0, run(3, 64))
	for id := 2; id <= 50; id++ {
		snapshot(t, s, id/2, 0, 64, id)
	}
	has(t, s, 50, 2)
	write(t, s, 17, 0, run(80, 64))
	write(t, s, 1, 0, run(90, 64))
	refused(t, api.ErrNoMemory, s.Write(33, 0, []byte{1}))
	for id := 2; id <= 50; id++ {
		if id != 17 {
			reads(t, s, id, 0, run(3, 64))
		}
	}
	reads(t, s, 17, 0, run(80, 64))
	for id := 1; id < 50; id++ {
		if _, e := s.Drop(id); e != api.OK {
			t.Fatalf("Drop(%d): %d", id, e)
		}
	}
	has(t, s, 6, 1)
	// The last user may write to what all had.
	write(t, s, 50, 0, run(1, 64))
	drop(t, s, 50, 50, 25, 12, 6, 3, 1)
	has(t, s, 0, 3)
}

// P8.5: a slice is a window on its parent.
func TestSlice(t *testing.T) {
	s := New(8, 8)
	create(t, s, 512, 1)
	write(t, s, 1, 0, run(0, 300))
	slice(t, s, 1, 64, 256, 2)
	slice(t, s, 2, 128, 64, 3)
	slice(t, s, 2, 256, 0, 4)
	tells(t, s, 1, Info{Size: 512, Children: 1, Committed: 5})
	tells(t, s, 2, Info{Size: 256, Parent: 1, Children: 2, Slice: true})
	tells(t, s, 3, Info{Size: 64, Parent: 2, Slice: true})
	tells(t, s, 4, Info{Parent: 2, Slice: true})
	reads(t, s, 2, 0, append(run(64, 236), make([]byte, 20)...))
	reads(t, s, 3, 0, run(192, 64))
	write(t, s, 3, 62, []byte("xy"))
	reads(t, s, 1, 253, append([]byte{run(253, 1)[0]}, 'x', 'y', run(256, 1)[0]))
	write(t, s, 1, 192, []byte("z"))
	reads(t, s, 3, 0, []byte("z"))
	noBytes(t, api.ErrOutOfRange)(s.Read(3, 60, 5))
	noBytes(t, api.ErrOutOfRange)(s.Read(3, -1, 1))
	refused(t, api.ErrOutOfRange, s.Write(3, 63, []byte("ab")), s.Write(3, -1, []byte("a")), s.Op(3, 3, 0, 65), s.Op(3, 2, -64, 64))
	// What is done is done in the topmost.
	op(t, s, 2, 1, 0, 256)
	tells(t, s, 1, Info{Size: 512, Children: 1, Committed: 5})
	op(t, s, 2, 2, 128, 128)
	tells(t, s, 1, Info{Size: 512, Children: 1, Committed: 3})
	reads(t, s, 3, 0, make([]byte, 64))
	op(t, s, 3, 1, 0, 64)
	tells(t, s, 1, Info{Size: 512, Children: 1, Committed: 4})
	tells(t, s, 3, Info{Size: 64, Parent: 2, Slice: true})
	op(t, s, 2, 3, 3, 100)
	want := run(0, 512)
	clear(want[67:167])
	clear(want[192:])
	reads(t, s, 1, 0, want)
	tells(t, s, 1, Info{Size: 512, Children: 1, Committed: 4})
	has(t, s, 4, 4)
}

// P8.5: a slice works on when its parents were dropped, and shares with a snapshot what its parent shares.
func TestSliceOfWhatWasDropped(t *testing.T) {
	s := New(4, 8)
	create(t, s, 128, 1)
	write(t, s, 1, 0, run(0, 128))
	slice(t, s, 1, 64, 64, 2)
	slice(t, s, 2, 0, 64, 3)
	snapshot(t, s, 1, 0, 128, 4)
	drop(t, s, 1)
	drop(t, s, 2)
	reads(t, s, 3, 0, run(64, 64))
	write(t, s, 3, 0, []byte("q"))
	reads(t, s, 4, 64, run(64, 64))
	reads(t, s, 3, 0, append([]byte("q"), run(65, 63)...))
	tells(t, s, 1, Info{Size: 128, Children: 2, Committed: 2, Dropped: true})
	slice(t, s, 3, 0, 64, 5)
	reads(t, s, 5, 0, []byte("q"))
	op(t, s, 5, 2, 0, 64)
	reads(t, s, 3, 0, make([]byte, 64))
	drop(t, s, 3)
	drop(t, s, 4, 4)
	drop(t, s, 5, 5, 3, 2, 1)
	has(t, s, 0, 4)
}

// P8.5: slices stand MaxDepth high and no higher, each from another place on.
func TestMostSlices(t *testing.T) {
	s := New(4, 40)
	create(t, s, 4096, 1)
	for id := 2; id <= api.MaxDepth+1; id++ {
		slice(t, s, id-1, 64, 4096-64*(id-1), id)
		tells(t, s, id, Info{Size: 4096 - 64*(id-1), Parent: id - 1, Slice: true})
	}
	top := api.MaxDepth + 1
	noChild(t, api.ErrNotSupported)(s.Slice(top, 0, 64))
	noChild(t, api.ErrNotSupported)(s.Slice(top, 0, 0))
	noChild(t, api.ErrInvalidArgs)(s.Slice(top, 1, 0))
	noChild(t, api.ErrOutOfRange)(s.Slice(top, 0, 4096))
	write(t, s, top, 5, []byte("deep"))
	reads(t, s, 1, 64*16+5, []byte("deep"))
	reads(t, s, 9, 64*8+5, []byte("deep"))
	// Others that stand as low as may be have slices as ever; so has a snapshot.
	slice(t, s, top-1, 64, 64, top+1)
	reads(t, s, top+1, 5, []byte("deep"))
	noChild(t, api.ErrNotSupported)(s.Slice(top+1, 0, 64))
	snapshot(t, s, 1, 1024, 64, top+2)
	slice(t, s, top+2, 0, 64, top+3)
	reads(t, s, top+3, 5, []byte("deep"))
	has(t, s, top+3, 3)
}

// P8.5: what can't be a child is told in the promise's order.
func TestChildrenRefused(t *testing.T) {
	s := New(4, 4)
	create(t, s, 8192, 1)
	slice(t, s, 1, 0, 8192, 2)
	for _, id := range []int{1, 2} {
		for _, c := range [][2]int{{-1, 64}, {-64, 64}, {0, -64}, {0, -1}, {1, 64}, {0, 63}, {65, 65}, {8193, 64}, {0, 8193}, {most, 0}, {0, most}, {least, 0}, {0, least}, {-64, 8256}, {4097, 4095}} {
			noChild(t, api.ErrInvalidArgs)(s.Snapshot(id, c[0], c[1]))
			noChild(t, api.ErrInvalidArgs)(s.Slice(id, c[0], c[1]))
		}
		for _, c := range [][2]int{{8192, 64}, {8256, 0}, {0, 8256}, {64, 8192}, {8128, 128}, {most - 63, 64}, {64, most - 63}, {most - 63, most - 63}} {
			noChild(t, api.ErrOutOfRange)(s.Snapshot(id, c[0], c[1]))
			noChild(t, api.ErrOutOfRange)(s.Slice(id, c[0], c[1]))
		}
	}
	noChild(t, api.ErrNotSupported)(s.Snapshot(2, 0, 64))
	noChild(t, api.ErrNotSupported)(s.Snapshot(2, 0, 0))
	noChild(t, api.ErrNotSupported)(s.Snapshot(2, 0, 4160))
	noChild(t, api.ErrInvalidArgs)(s.Snapshot(1, 0, 4160))
	noChild(t, api.ErrInvalidArgs)(s.Snapshot(1, 0, 8192))
	snapshot(t, s, 1, 4096, 4096, 3)
	slice(t, s, 1, 4096, 4096, 4)
	// All objects that may be are there.
	noChild(t, api.ErrNoMemory)(s.Snapshot(1, 0, 64))
	noChild(t, api.ErrNoMemory)(s.Slice(1, 0, 64))
	noChild(t, api.ErrNoMemory)(s.Slice(2, 0, 64))
	noChild(t, api.ErrNotSupported)(s.Snapshot(2, 0, 64))
	noChild(t, api.ErrInvalidArgs)(s.Snapshot(1, 0, 4160))
	noChild(t, api.ErrInvalidArgs)(s.Slice(1, 0, 1))
	noChild(t, api.ErrOutOfRange)(s.Slice(1, 8192, 64))
	tells(t, s, 1, Info{Size: 8192, Children: 3})
	tells(t, s, 2, Info{Size: 8192, Parent: 1, Slice: true})
	drop(t, s, 4, 4)
	// What was refused has not taken a number, nor a child's place.
	slice(t, s, 1, 0, 64, 5)
}

// P8.5: that slices stand too high is told ahead of too many objects.
func TestTooHighAheadOfTooMany(t *testing.T) {
	s := New(1, api.MaxDepth+1)
	create(t, s, 64, 1)
	for id := 2; id <= api.MaxDepth+1; id++ {
		slice(t, s, id-1, 0, 64, id)
	}
	noChild(t, api.ErrNotSupported)(s.Slice(api.MaxDepth+1, 0, 64))
	noChild(t, api.ErrNoMemory)(s.Slice(api.MaxDepth, 0, 64))
}

// P8.6: what is dropped ends when its last child has; then what stands above it, if that was dropped.
func TestDrop(t *testing.T) {
	s := New(8, 8)
	create(t, s, 128, 1)
	write(t, s, 1, 0, run(0, 128))
	snapshot(t, s, 1, 0, 128, 2)
	snapshot(t, s, 2, 0, 128, 3)
	slice(t, s, 3, 0, 64, 4)
	slice(t, s, 1, 0, 64, 5)
	drop(t, s, 3)
	drop(t, s, 4, 4, 3)
	tells(t, s, 2, Info{Size: 128, Parent: 1, Committed: 2})
	drop(t, s, 1)
	tells(t, s, 1, Info{Size: 128, Children: 2, Committed: 2, Dropped: true})
	drop(t, s, 2, 2)
	tells(t, s, 1, Info{Size: 128, Children: 1, Committed: 2, Dropped: true})
	has(t, s, 2, 6)
	drop(t, s, 5, 5, 1)
	has(t, s, 0, 8)
	create(t, s, 1, 6)
	drop(t, s, 6, 6)
}

// P8.6: frames of what has ended are free, but for those that others have.
func TestDropReleases(t *testing.T) {
	s := New(6, 4)
	create(t, s, 256, 1)
	write(t, s, 1, 0, run(0, 256))
	snapshot(t, s, 1, 64, 128, 2)
	write(t, s, 2, 0, []byte("n"))
	has(t, s, 2, 1)
	drop(t, s, 1)
	has(t, s, 2, 1)
	write(t, s, 2, 64, []byte("m"))
	has(t, s, 2, 0)
	drop(t, s, 2, 2, 1)
	has(t, s, 0, 6)
	// What a frame held earlier is not seen in another object.
	create(t, s, 384, 3)
	op(t, s, 3, 1, 0, 384)
	reads(t, s, 3, 0, make([]byte, 384))
}

// P8.6: as many objects as there may be, each a snapshot of the one ahead of it, end one after the other.
func TestLongestEnd(t *testing.T) {
	s := New(2, api.MaxSlots)
	create(t, s, 64, 1)
	write(t, s, 1, 0, run(0, 64))
	for id := 2; id <= api.MaxSlots; id++ {
		snapshot(t, s, id-1, 0, 64, id)
	}
	has(t, s, api.MaxSlots, 1)
	for id := 1; id < api.MaxSlots; id++ {
		drop(t, s, id)
	}
	reads(t, s, api.MaxSlots, 0, run(0, 64))
	want := make([]int, 0, api.MaxSlots)
	for id := api.MaxSlots; id > 0; id-- {
		want = append(want, id)
	}
	drop(t, s, api.MaxSlots, want...)
	has(t, s, 0, 2)
	create(t, s, 64, api.MaxSlots+1)
}

// P8.6: all frames that may be, and what is left of them at each step.
func TestAllFrames(t *testing.T) {
	s := New(api.MaxSlots, 2)
	create(t, s, 1<<23, 1)
	for at := 0; at < 1<<22; at += 4096 {
		op(t, s, 1, 1, at, 4096)
		has(t, s, 1, api.MaxSlots-at/64-64)
	}
	refused(t, api.ErrNoMemory, s.Op(1, 1, 1<<22, 64), s.Write(1, 1<<23-1, []byte{1}))
	tells(t, s, 1, Info{Size: 1 << 23, Committed: api.MaxSlots})
	resize(t, s, 1, 1<<22-64)
	has(t, s, 1, 1)
	snapshot(t, s, 1, 0, 4096, 2)
	write(t, s, 2, 0, []byte{1})
	refused(t, api.ErrNoMemory, s.Write(1, 64, []byte{1}))
	drop(t, s, 1)
	drop(t, s, 2, 2, 1)
	has(t, s, 0, api.MaxSlots)
}

// P8.7: what is written is neither changed nor kept, its spare room neither.
func TestWrittenIsNotKept(t *testing.T) {
	s := New(4, 2)
	create(t, s, 256, 1)
	room := run(0, 200)
	write(t, s, 1, 50, room[:100])
	if !bytes.Equal(room, run(0, 200)) {
		t.Errorf("Write changed its bytes: %v", room)
	}
	clear(room)
	want := make([]byte, 256)
	copy(want[50:], run(0, 100))
	reads(t, s, 1, 0, want)
	write(t, s, 1, 0, run(9, 256))
	op(t, s, 1, 3, 1, 200)
	if !bytes.Equal(room, make([]byte, 200)) {
		t.Errorf("later calls changed earlier bytes: %v", room)
	}
}

// fill writes over a list, its spare room too.
func fill[T any](list []T, with T) {
	list = list[:cap(list)]
	for i := range list {
		list[i] = with
	}
}

// P8.7: what is told is new memory, its spare room too.
func TestToldIsNewMemory(t *testing.T) {
	s := New(4, 4)
	create(t, s, 256, 1)
	write(t, s, 1, 0, run(0, 128))
	one, _ := s.Read(1, 40, 100)
	two, _ := s.Read(1, 40, 100)
	none, _ := s.Read(1, 40, 0)
	zeros, _ := s.Read(1, 192, 64)
	fill(one, 255)
	fill(none, 255)
	fill(zeros, 255)
	want := append(run(0, 128), make([]byte, 128)...)
	if !bytes.Equal(two, want[40:140]) {
		t.Errorf("another answer: %v", two)
	}
	reads(t, s, 1, 0, want)
	write(t, s, 1, 0, make([]byte, 256))
	if !bytes.Equal(two, want[40:140]) {
		t.Errorf("an earlier answer: %v", two)
	}
	snapshot(t, s, 1, 0, 64, 2)
	drop(t, s, 1)
	ended, _ := s.Drop(2)
	if !slices.Equal(ended, []int{2, 1}) {
		t.Fatalf("Drop: %v", ended)
	}
	fill(ended, 3)
	create(t, s, 64, 3)
	snapshot(t, s, 3, 0, 64, 4)
	drop(t, s, 3)
	again, _ := s.Drop(4)
	if !slices.Equal(ended, repeated(3, len(ended))) || !slices.Equal(again, []int{4, 3}) {
		t.Errorf("%v beside %v", ended, again)
	}
}

// repeated is a list of n alone.
func repeated(n, count int) []int {
	return slices.Repeat([]int{n}, count)
}

// Two sets know nothing of each other.
func TestSetsAreApart(t *testing.T) {
	a, b := New(2, 2), New(2, 2)
	create(t, a, 64, 1)
	write(t, a, 1, 0, run(0, 64))
	has(t, b, 0, 2)
	gone(t, b, 1)
	create(t, b, 128, 1)
	reads(t, b, 1, 0, make([]byte, 128))
	drop(t, b, 1, 1)
	reads(t, a, 1, 0, run(0, 64))
	has(t, a, 1, 1)
}

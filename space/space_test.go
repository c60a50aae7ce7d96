package space

import (
	"bytes"
	"slices"
	"strings"
	"testing"

	"jacinth/api"
	"jacinth/region"
	"jacinth/vmo"
)

const (
	most  = 1<<63 - 1
	least = -1 << 63
	page  = api.PageSize
)

// piece is what n numbers from at on are mapped to.
func piece(at, n, id, from, prot int) region.Piece {
	return region.Piece{At: at, Len: n, Vmo: id, From: from, Prot: prot}
}

// create makes an object of a set, filled with one letter.
func create(t *testing.T, set *vmo.Set, size int, letter string) int {
	t.Helper()
	id, s := set.Create(size)
	if s != api.OK {
		t.Fatalf("Create(%d): %d", size, s)
	}
	if s := set.Write(id, 0, []byte(strings.Repeat(letter, size))); s != api.OK {
		t.Fatalf("Write to all of object %d: %d", id, s)
	}
	return id
}

// place maps n bytes, which must be told to lie at want.
func place(t *testing.T, s *Space, at, n, id, from, prot, want int) {
	t.Helper()
	if got, e := s.Map(at, n, id, from, prot); got != want || e != api.OK {
		t.Fatalf("Map(%d, %d, %d, %d, %d): %d, %d; right is %d, 0", at, n, id, from, prot, got, e, want)
	}
}

// no holds what is told beside the status of a Map or Write that is refused whole.
func no(t *testing.T, want api.Status) func(got int, e api.Status) {
	return func(got int, e api.Status) {
		t.Helper()
		if got != 0 || e != want {
			t.Errorf("%d, %d; right is 0, %d", got, e, want)
		}
	}
}

// noBytes holds what is told beside the status of a Read that is refused.
func noBytes(t *testing.T, want api.Status) func(b []byte, e api.Status) {
	return func(b []byte, e api.Status) {
		t.Helper()
		if len(b) != 0 || e != want {
			t.Errorf("%q, %d; right is nothing, %d", b, e, want)
		}
	}
}

// noPieces holds what is told beside the status of an Unmap that is refused.
func noPieces(t *testing.T, want api.Status) func(pieces []region.Piece, e api.Status) {
	return func(pieces []region.Piece, e api.Status) {
		t.Helper()
		if len(pieces) != 0 || e != want {
			t.Errorf("%v, %d; right is nothing, %d", pieces, e, want)
		}
	}
}

// status holds a status against the one that is right.
func status(t *testing.T, want, got api.Status) {
	t.Helper()
	if got != want {
		t.Errorf("%d; right is %d", got, want)
	}
}

// read holds what is told of some bytes against those that are right.
func read(t *testing.T, s *Space, at int, want string) {
	t.Helper()
	if got, e := s.Read(at, len(want)); string(got) != want || e != api.OK {
		t.Errorf("Read(%d, %d): %q, %d; right is %q, 0", at, len(want), got, e, want)
	}
}

// write writes text, of which so many bytes must be taken, and whose status must be this.
func write(t *testing.T, s *Space, at int, text string, taken int, want api.Status) {
	t.Helper()
	if got, e := s.Write(at, []byte(text)); got != taken || e != want {
		t.Errorf("Write(%d, %q): %d, %d; right is %d, %d", at, text, got, e, taken, want)
	}
}

// memory holds bytes of an object against those that are right.
func memory(t *testing.T, set *vmo.Set, id, at int, want string) {
	t.Helper()
	if got, e := set.Read(id, at, len(want)); string(got) != want || e != api.OK {
		t.Errorf("object %d at %d: %q, %d; right is %q", id, at, got, e, want)
	}
}

// holds holds all pieces against those that are right.
func holds(t *testing.T, s *Space, want ...region.Piece) {
	t.Helper()
	if got := s.Pieces(); !slices.Equal(got, want) {
		t.Errorf("Pieces: %v; right is %v", got, want)
	}
}

// uses holds how many pieces an object has against what is right.
func uses(t *testing.T, s *Space, id, want int) {
	t.Helper()
	if got := s.Uses(id); got != want {
		t.Errorf("Uses(%d): %d; right is %d", id, got, want)
	}
}

// far are numbers that are nothing's place, length or id.
func far() []int {
	return []int{most, most - 1, most - 63, 1 << 62, 1 << 40, 1<<32 + 64, least, least + 1, least + 64, -1 << 32, -128, -65, -64, -2}
}

// three makes a space of eight pages, in which one may be mapped three times: a's two pages that may be read and written, beside them b's second one to be read alone, and b's first one further on to be written alone.
func three(t *testing.T) (set *vmo.Set, s *Space) {
	t.Helper()
	set = vmo.New(16, 8)
	a, b := create(t, set, 128, "a"), create(t, set, 128, "b")
	s = New(set, 512, 3)
	place(t, s, 64, 128, a, 0, 3, 64)
	place(t, s, 192, 64, b, 64, 1, 192)
	place(t, s, 320, 64, b, 0, 2, 320)
	return set, s
}

// asThree holds the pieces against those that three has put.
func asThree(t *testing.T, s *Space) {
	t.Helper()
	holds(t, s, piece(64, 128, 1, 0, 3), piece(192, 64, 2, 64, 1), piece(320, 64, 2, 0, 2))
}

func TestExample(t *testing.T) {
	set := vmo.New(4, 4)
	id, _ := set.Create(128)
	s := New(set, 512, 4)
	place(t, s, 64, 128, id, 0, 3, 64)
	write(t, s, 126, "abcd", 4, api.OK)
	memory(t, set, id, 61, "\x00abcd\x00")
	noBytes(t, api.ErrNotFound)(s.Read(60, 8))
}

// P10.1: a space of a size, in which nothing is mapped.
func TestNew(t *testing.T) {
	set := vmo.New(4, 4)
	id, _ := set.Create(64)
	for _, size := range []int{0, 64, 128, 1 << 16, 1<<32 - 64, 1 << 32} {
		for _, pieces := range []int{0, 1, 2, 65535, 65536} {
			s := New(set, size, pieces)
			if s == nil {
				t.Fatalf("New(%d, %d): nil", size, pieces)
			}
			holds(t, s)
			uses(t, s, id, 0)
			read(t, s, size, "")
			noBytes(t, api.ErrNotFound)(s.Read(size+1, 0))
			if len(s.Clear()) != 0 {
				t.Errorf("Clear of a new space tells pieces")
			}
		}
	}
}

// P10.1: none without a set, of a size that no region has, or with a wrong number of pieces.
func TestNewNil(t *testing.T) {
	set := vmo.New(0, 0)
	for _, n := range slices.Concat(far(), []int{-1, 1, 63, 65, 100, 1<<32 - 1, 1<<32 + 1}) {
		if New(set, n, 1) != nil {
			t.Errorf("New(%d, 1): not nil", n)
		}
		if n < 0 || n > 65536 {
			if New(set, 64, n) != nil {
				t.Errorf("New(64, %d): not nil", n)
			}
		}
	}
	if New(set, 64, 65537) != nil || New(set, 64, -1) != nil {
		t.Errorf("New with one piece too many or too few: not nil")
	}
	if New(nil, 64, 1) != nil || New(nil, 65, 1) != nil || New(nil, 0, 0) != nil {
		t.Errorf("New without a set: not nil")
	}
}

// P10.1: places that are asked for, each of which is told; an object may be mapped often, from any of its pages, with any protection.
func TestMap(t *testing.T) {
	set := vmo.New(8, 8)
	id, other := create(t, set, 256, "x"), create(t, set, 64, "y")
	s := New(set, 1024, 8)
	place(t, s, 960, 64, id, 192, 0, 960)
	place(t, s, 0, 256, id, 0, 1, 0)
	place(t, s, 256, 128, id, 64, 2, 256)
	place(t, s, 512, 64, other, 0, 3, 512)
	holds(t, s, piece(0, 256, id, 0, 1), piece(256, 128, id, 64, 2), piece(512, 64, other, 0, 3), piece(960, 64, id, 192, 0))
}

// P10.1: at -1 the least place that is free is taken.
func TestMapAnywhere(t *testing.T) {
	set := vmo.New(8, 8)
	id := create(t, set, 256, "x")
	s := New(set, 512, 8)
	place(t, s, 64, 64, id, 0, 3, 64)
	place(t, s, -1, 128, id, 64, 1, 128)
	place(t, s, -1, 64, id, 192, 2, 0)
	place(t, s, -1, 192, id, 0, 3, 256)
	no(t, api.ErrNoMemory)(s.Map(-1, 128, id, 0, 3))
	place(t, s, -1, 64, id, 0, 0, 448)
	no(t, api.ErrNoMemory)(s.Map(-1, 64, id, 0, 3))
	holds(t, s, piece(0, 64, id, 192, 2), piece(64, 64, id, 0, 3), piece(128, 128, id, 64, 1), piece(256, 192, id, 0, 3), piece(448, 64, id, 0, 0))
}

// P10.1: objects that are not there, or were dropped, ahead of all else that is wrong.
func TestMapNotFound(t *testing.T) {
	set, s := three(t)
	child, _ := set.Slice(1, 0, 64)
	gone := create(t, set, 64, "g")
	set.Drop(1)
	set.Drop(gone)
	if info, ok := set.Info(1); !info.Dropped || !ok {
		t.Fatalf("object 1 is not dropped, or has ended")
	}
	for _, id := range slices.Concat(far(), []int{0, -1, 1, gone, gone + 1}) {
		no(t, api.ErrNotFound)(s.Map(0, 64, id, 0, 3))
		no(t, api.ErrNotFound)(s.Map(-1, 64, id, 0, 3))
		no(t, api.ErrNotFound)(s.Map(64, -1, id, -1, 4))
		no(t, api.ErrNotFound)(s.Map(-64, most, id, most, -1))
	}
	asThree(t, s)
	s.Clear()
	place(t, s, -1, 64, child, 0, 1, 0)
}

// P10.1: lengths and places below 0, ahead of the object's size and of all that the region says.
func TestMapBelowZero(t *testing.T) {
	_, s := three(t)
	for _, at := range []int{-1, 0, 64, 1, -64, 512, 1 << 40, most, least} {
		for _, n := range []int{-1, -64, -65, -1 << 32, least, least + 1} {
			no(t, api.ErrInvalidArgs)(s.Map(at, n, 1, 0, 3))
			no(t, api.ErrInvalidArgs)(s.Map(at, 64, 1, n, 3))
			no(t, api.ErrInvalidArgs)(s.Map(at, n, 1, n, 4))
			no(t, api.ErrInvalidArgs)(s.Map(at, n, 1, most, 3))
			no(t, api.ErrInvalidArgs)(s.Map(at, most, 1, n, 3))
		}
	}
	asThree(t, s)
}

// P10.1: what goes past the object's size, ahead of all that the region says.
func TestMapOutOfRange(t *testing.T) {
	set, s := three(t)
	empty, _ := set.Create(0)
	for _, at := range []int{-1, 0, 64, 1, -64, 512, 1 << 40, most, least} {
		for _, prot := range []int{3, 4, -1} {
			no(t, api.ErrOutOfRange)(s.Map(at, 192, 1, 0, prot))
			no(t, api.ErrOutOfRange)(s.Map(at, 129, 1, 0, prot))
			no(t, api.ErrOutOfRange)(s.Map(at, 0, 1, 129, prot))
			no(t, api.ErrOutOfRange)(s.Map(at, 64, 1, 128, prot))
			no(t, api.ErrOutOfRange)(s.Map(at, 65, 1, 64, prot))
			no(t, api.ErrOutOfRange)(s.Map(at, 64, 1, 65, prot))
			no(t, api.ErrOutOfRange)(s.Map(at, 1, empty, 0, prot))
			for _, n := range []int{most, most - 63, 1 << 62, 1 << 33, 1 << 32} {
				no(t, api.ErrOutOfRange)(s.Map(at, n, 1, 0, prot))
				no(t, api.ErrOutOfRange)(s.Map(at, 0, 1, n, prot))
				no(t, api.ErrOutOfRange)(s.Map(at, 64, 1, n, prot))
				no(t, api.ErrOutOfRange)(s.Map(at, n, 1, 64, prot))
				no(t, api.ErrOutOfRange)(s.Map(at, n, 1, n, prot))
			}
		}
	}
	asThree(t, s)
}

// P10.1: the size that is asked is the object's at that time.
func TestMapResized(t *testing.T) {
	set := vmo.New(8, 8)
	id := create(t, set, 64, "x")
	s := New(set, 512, 8)
	no(t, api.ErrOutOfRange)(s.Map(0, 128, id, 0, 3))
	set.Resize(id, 128)
	place(t, s, 0, 128, id, 0, 3, 0)
	set.Resize(id, 64)
	no(t, api.ErrOutOfRange)(s.Map(256, 128, id, 0, 3))
	holds(t, s, piece(0, 128, id, 0, 3))
}

// P10.1: at -1 what Place says of the length comes ahead of what is wrong with the piece.
func TestMapNoPlace(t *testing.T) {
	set := vmo.New(16, 8)
	id := create(t, set, 640, "x")
	s := New(set, 512, 1)
	for _, n := range []int{0, 1, 63, 65, 127} {
		no(t, api.ErrInvalidArgs)(s.Map(-1, n, id, 0, 3))
		no(t, api.ErrInvalidArgs)(s.Map(-1, n, id, 1, 4))
	}
	no(t, api.ErrNoMemory)(s.Map(-1, 576, id, 0, 3))
	no(t, api.ErrNoMemory)(s.Map(-1, 576, id, 1, 3))
	no(t, api.ErrNoMemory)(s.Map(-1, 576, id, 0, 4))
	no(t, api.ErrInvalidArgs)(s.Map(-1, 512, id, 1, 3))
	no(t, api.ErrInvalidArgs)(s.Map(-1, 512, id, 0, 4))
	place(t, s, 0, 64, id, 0, 3, 0)
	no(t, api.ErrNoMemory)(s.Map(-1, 512, id, 1, 4))
	no(t, api.ErrInvalidArgs)(s.Map(-1, 448, id, 1, 3))
	no(t, api.ErrNoMemory)(s.Map(-1, 448, id, 0, 3))
	holds(t, s, piece(0, 64, id, 0, 3))
}

// P10.1: what Put says: wrong numbers, what lies outside, what overlaps, too many pieces.
func TestMapRefusedByPut(t *testing.T) {
	_, s := three(t)
	for _, at := range []int{-2, -64, -63, 1, 63, 65, 1<<32 - 1, most, least} {
		no(t, api.ErrInvalidArgs)(s.Map(at, 64, 1, 0, 3))
	}
	for _, n := range []int{0, 1, 63, 65, 127} {
		no(t, api.ErrInvalidArgs)(s.Map(0, n, 1, 0, 3))
	}
	for _, from := range []int{1, 32, 63} {
		no(t, api.ErrInvalidArgs)(s.Map(0, 64, 1, from, 3))
	}
	for _, prot := range []int{-1, -4, 4, 7, 1 << 32, most, least} {
		no(t, api.ErrInvalidArgs)(s.Map(0, 64, 1, 0, prot))
		no(t, api.ErrInvalidArgs)(s.Map(64, 64, 1, 0, prot))
		no(t, api.ErrInvalidArgs)(s.Map(512, 64, 1, 0, prot))
	}
	for _, at := range []int{512, 576, 1 << 32, 1 << 40, most - 63} {
		no(t, api.ErrOutOfRange)(s.Map(at, 64, 1, 0, 3))
	}
	no(t, api.ErrOutOfRange)(s.Map(448, 128, 1, 0, 3))
	for _, at := range []int{64, 128, 192, 320} {
		no(t, api.ErrAlreadyExists)(s.Map(at, 64, 1, 0, 3))
	}
	no(t, api.ErrAlreadyExists)(s.Map(256, 128, 1, 0, 3))
	no(t, api.ErrNoMemory)(s.Map(256, 64, 1, 0, 3))
	no(t, api.ErrNoMemory)(s.Map(-1, 64, 1, 0, 3))
	asThree(t, s)
	uses(t, s, 1, 1)
}

// P10.1: the greatest space, whole of the greatest object.
func TestGreatestSpace(t *testing.T) {
	set := vmo.New(2, 2)
	id, _ := set.Create(api.MaxSize)
	s := New(set, api.MaxSize, 3)
	place(t, s, -1, api.MaxSize, id, 0, 3, 0)
	write(t, s, api.MaxSize-2, "yz", 2, api.OK)
	write(t, s, api.MaxSize-2, "abc", 0, api.ErrNotFound)
	memory(t, set, id, api.MaxSize-2, "yz")
	read(t, s, api.MaxSize-3, "\x00yz")
	read(t, s, api.MaxSize, "")
	noBytes(t, api.ErrNotFound)(s.Read(api.MaxSize, 1))
	if told, e := s.Unmap(0, api.MaxSize-64); e != api.OK || !slices.Equal(told, []region.Piece{piece(0, api.MaxSize-64, id, 0, 3)}) {
		t.Errorf("Unmap: %v, %d", told, e)
	}
	holds(t, s, piece(api.MaxSize-64, 64, id, api.MaxSize-64, 3))
	place(t, s, 0, 64, id, api.MaxSize-64, 1, 0)
	read(t, s, 62, "yz")
	no(t, api.ErrInvalidArgs)(s.Map(64, 0, id, api.MaxSize, 1))
}

// P10.2: what is unmapped is told; pieces that reach over an end stay outside.
func TestUnmap(t *testing.T) {
	_, s := three(t)
	if told, e := s.Unmap(128, 128); e != api.OK || !slices.Equal(told, []region.Piece{piece(128, 64, 1, 64, 3), piece(192, 64, 2, 64, 1)}) {
		t.Errorf("Unmap: %v, %d", told, e)
	}
	holds(t, s, piece(64, 64, 1, 0, 3), piece(320, 64, 2, 0, 2))
	read(t, s, 64, strings.Repeat("a", 64))
	noBytes(t, api.ErrNotFound)(s.Read(64, 65))
	write(t, s, 127, "xy", 0, api.ErrNotFound)
	if told, e := s.Unmap(128, 128); len(told) != 0 || e != api.OK {
		t.Errorf("Unmap of nothing: %v, %d", told, e)
	}
	place(t, s, -1, 64, 1, 64, 3, 0)
}

// P10.2: ranges that can't be unmapped.
func TestUnmapRefused(t *testing.T) {
	set, s := three(t)
	for _, n := range slices.Concat(far(), []int{1, 63, 65}) {
		if n < 0 || n%page != 0 {
			noPieces(t, api.ErrInvalidArgs)(s.Unmap(n, 64))
			noPieces(t, api.ErrInvalidArgs)(s.Unmap(64, n))
			noPieces(t, api.ErrInvalidArgs)(s.Unmap(n, n))
			continue
		}
		noPieces(t, api.ErrOutOfRange)(s.Unmap(n, 64))
		noPieces(t, api.ErrOutOfRange)(s.Unmap(64, n))
		noPieces(t, api.ErrOutOfRange)(s.Unmap(n, n))
	}
	noPieces(t, api.ErrInvalidArgs)(s.Unmap(64, 0))
	noPieces(t, api.ErrInvalidArgs)(s.Unmap(-1, 64))
	noPieces(t, api.ErrOutOfRange)(s.Unmap(448, 128))
	asThree(t, s)
	one := New(set, 512, 1)
	set.Resize(2, 192)
	place(t, one, 64, 192, 2, 0, 3, 64)
	noPieces(t, api.ErrNoMemory)(one.Unmap(128, 64))
	holds(t, one, piece(64, 192, 2, 0, 3))
}

// P10.2: another protection, asked of each part from then on; pieces are cut, never put together.
func TestProtect(t *testing.T) {
	set, _ := three(t)
	s := New(set, 512, 4)
	place(t, s, 64, 128, 1, 0, 3, 64)
	place(t, s, 192, 64, 2, 64, 1, 192)
	status(t, api.OK, s.Protect(128, 128, 2))
	holds(t, s, piece(64, 64, 1, 0, 3), piece(128, 64, 1, 64, 2), piece(192, 64, 2, 64, 2))
	noBytes(t, api.ErrAccessDenied)(s.Read(127, 2))
	write(t, s, 190, "wxyz", 4, api.OK)
	status(t, api.OK, s.Protect(64, 192, 1))
	read(t, s, 189, "awxyzb")
	write(t, s, 64, "x", 0, api.ErrAccessDenied)
	status(t, api.OK, s.Protect(64, 192, 0))
	noBytes(t, api.ErrAccessDenied)(s.Read(64, 1))
	write(t, s, 64, "x", 0, api.ErrAccessDenied)
	holds(t, s, piece(64, 64, 1, 0, 0), piece(128, 64, 1, 64, 0), piece(192, 64, 2, 64, 0))
}

// P10.2: ranges and protections that aren't right, and pieces that would be too many.
func TestProtectRefused(t *testing.T) {
	_, s := three(t)
	for _, n := range slices.Concat(far(), []int{1, 63, 65}) {
		if n < 0 || n%page != 0 {
			status(t, api.ErrInvalidArgs, s.Protect(n, 64, 1))
			status(t, api.ErrInvalidArgs, s.Protect(64, n, 1))
		} else {
			status(t, api.ErrOutOfRange, s.Protect(n, 64, 1))
			status(t, api.ErrOutOfRange, s.Protect(64, n, 1))
		}
		status(t, api.ErrInvalidArgs, s.Protect(64, 64, 4|n&^3))
	}
	status(t, api.ErrInvalidArgs, s.Protect(64, 0, 1))
	status(t, api.ErrInvalidArgs, s.Protect(64, 64, -1))
	status(t, api.ErrInvalidArgs, s.Protect(512, 64, 4))
	status(t, api.ErrOutOfRange, s.Protect(448, 128, 1))
	status(t, api.ErrNotFound, s.Protect(0, 128, 1))
	status(t, api.ErrNotFound, s.Protect(192, 128, 1))
	status(t, api.ErrNotFound, s.Protect(256, 64, 1))
	status(t, api.ErrNoMemory, s.Protect(64, 64, 1))
	status(t, api.ErrNoMemory, s.Protect(128, 128, 1))
	asThree(t, s)
}

// P10.2: nothing is mapped any more, and all pieces that there were are told; then all may be mapped again.
func TestClear(t *testing.T) {
	set, s := three(t)
	want := s.Pieces()
	if got := s.Clear(); !slices.Equal(got, want) || len(got) != 3 {
		t.Errorf("Clear: %v; right is %v", got, want)
	}
	holds(t, s)
	uses(t, s, 1, 0)
	uses(t, s, 2, 0)
	noBytes(t, api.ErrNotFound)(s.Read(64, 1))
	if got := s.Clear(); len(got) != 0 {
		t.Errorf("Clear again: %v", got)
	}
	place(t, s, -1, 128, 1, 0, 3, 0)
	place(t, s, -1, 128, 1, 0, 3, 128)
	place(t, s, 448, 64, 1, 0, 3, 448)
	no(t, api.ErrNoMemory)(s.Map(-1, 64, 1, 0, 3))
	memory(t, set, 1, 0, "a")
	if got := New(set, 0, 0).Clear(); len(got) != 0 {
		t.Errorf("Clear of no numbers: %v", got)
	}
}

// P10.2: Clear reaches to both ends of the greatest space.
func TestClearOfGreatest(t *testing.T) {
	set := vmo.New(1, 1)
	id, _ := set.Create(64)
	s := New(set, api.MaxSize, 2)
	place(t, s, 0, 64, id, 0, 3, 0)
	place(t, s, api.MaxSize-64, 64, id, 0, 3, api.MaxSize-64)
	uses(t, s, id, 2)
	if got := s.Clear(); !slices.Equal(got, []region.Piece{piece(0, 64, id, 0, 3), piece(api.MaxSize-64, 64, id, 0, 3)}) {
		t.Errorf("Clear: %v", got)
	}
	holds(t, s)
}

// P10.2: pieces are counted, not pages; cuts make more of them, and dropped objects keep theirs.
func TestUses(t *testing.T) {
	set := vmo.New(8, 8)
	a, b := create(t, set, 256, "a"), create(t, set, 64, "b")
	s := New(set, 1024, 8)
	place(t, s, 0, 256, a, 0, 3, 0)
	uses(t, s, a, 1)
	uses(t, s, b, 0)
	place(t, s, 512, 64, a, 0, 1, 512)
	place(t, s, 576, 64, b, 0, 1, 576)
	uses(t, s, a, 2)
	uses(t, s, b, 1)
	s.Unmap(64, 64)
	uses(t, s, a, 3)
	s.Protect(192, 64, 1)
	uses(t, s, a, 4)
	set.Drop(a)
	uses(t, s, a, 4)
	s.Unmap(0, 256)
	uses(t, s, a, 1)
	s.Unmap(512, 128)
	uses(t, s, a, 0)
	uses(t, s, b, 0)
	for _, id := range slices.Concat(far(), []int{0, -1, 3}) {
		uses(t, s, id, 0)
	}
}

// P10.2: all of 2^16 pieces are counted, and cleared.
func TestAllPieces(t *testing.T) {
	set := vmo.New(1, 2)
	a, _ := set.Create(64)
	b, _ := set.Create(64)
	s := New(set, 1<<32, 1<<16)
	for i := range 1 << 16 {
		place(t, s, 128*i, 64, a+i%2*(b-a), 0, 3, 128*i)
	}
	no(t, api.ErrNoMemory)(s.Map(-1, 64, a, 0, 3))
	uses(t, s, a, 1<<15)
	uses(t, s, b, 1<<15)
	write(t, s, 128*40001, "z", 1, api.OK)
	read(t, s, 128*9, "z")
	if got := len(s.Pieces()); got != 1<<16 {
		t.Errorf("%d pieces", got)
	}
	if got := len(s.Clear()); got != 1<<16 {
		t.Errorf("%d pieces cleared", got)
	}
	holds(t, s)
	uses(t, s, a, 0)
}

// P10.3: bytes of several parts, one behind the other, from the place in their object that each begins at.
func TestRead(t *testing.T) {
	set, s := three(t)
	set.Write(1, 0, []byte("first"))
	set.Write(1, 64, []byte("second"))
	set.Write(1, 127, []byte("!"))
	set.Write(2, 64, []byte("third"))
	read(t, s, 64, "first")
	read(t, s, 66, "rst")
	read(t, s, 126, "aasec")
	read(t, s, 190, "a!thi")
	read(t, s, 192, "third")
	read(t, s, 64, "first"+strings.Repeat("a", 59)+"second"+strings.Repeat("a", 57)+"!third"+strings.Repeat("b", 59))
}

// P10.3: of no bytes, wherever they are within the size: none, whatever is mapped there.
func TestReadNothing(t *testing.T) {
	_, s := three(t)
	for _, at := range []int{0, 1, 63, 64, 100, 192, 256, 320, 330, 511, 512} {
		read(t, s, at, "")
		write(t, s, at, "", 0, api.OK)
	}
	for _, at := range []int{513, 1 << 32, most} {
		noBytes(t, api.ErrNotFound)(s.Read(at, 0))
		write(t, s, at, "", 0, api.ErrNotFound)
	}
	for _, at := range []int{-1, -64, least} {
		noBytes(t, api.ErrInvalidArgs)(s.Read(at, 0))
		write(t, s, at, "", 0, api.ErrInvalidArgs)
	}
}

// P10.3, P10.4: as many bytes as may be, and one more, which is told ahead of what is mapped.
func TestMostBytes(t *testing.T) {
	set := vmo.New(256, 2)
	id, _ := set.Create(8192)
	s := New(set, 1<<32, 200)
	for i := range 128 {
		place(t, s, 64*i, 64, id, 64*(127-i), 3, 64*i)
	}
	text := make([]byte, 4096)
	for i := range text {
		text[i] = byte(i * 7 / 5)
	}
	write(t, s, 33, string(text), 4096, api.OK)
	read(t, s, 33, string(text))
	memory(t, set, id, 64*126, string(text[31:95]))
	long := strings.Repeat("x", 4097)
	for _, at := range []int{0, 1, 33, 8192, 1 << 32, -1, most, least} {
		write(t, s, at, long, 0, api.ErrInvalidArgs)
		write(t, s, at, long+long, 0, api.ErrInvalidArgs)
		for _, n := range []int{4097, 8192, 8193, 1 << 32, most, -1, -64, least} {
			noBytes(t, api.ErrInvalidArgs)(s.Read(at, n))
		}
	}
	status(t, api.OK, s.Protect(0, 8192, 0))
	write(t, s, 0, long, 0, api.ErrInvalidArgs)
	noBytes(t, api.ErrInvalidArgs)(s.Read(0, 4097))
	write(t, s, 0, long[1:], 0, api.ErrAccessDenied)
	noBytes(t, api.ErrAccessDenied)(s.Read(0, 4096))
	write(t, s, 4097, long[1:], 0, api.ErrNotFound)
	noBytes(t, api.ErrNotFound)(s.Read(4097, 4096))
	status(t, api.OK, s.Protect(0, 8192, 3))
	read(t, s, 33, string(text))
}

// P10.3, P10.4: numbers that are not mapped, ahead of parts that may not be used.
func TestNotMapped(t *testing.T) {
	set, s := three(t)
	for _, c := range []struct{ at, n int }{
		{0, 1}, {63, 1}, {63, 2}, {60, 8}, {255, 2}, {256, 1}, {319, 1}, {319, 2}, {383, 2}, {200, 200}, {64, 320}, {511, 1}, {511, 2}, {512, 1}, {513, 1}, {1 << 32, 1}, {most, 1}, {most, 4096}, {most - 4095, 4096},
	} {
		noBytes(t, api.ErrNotFound)(s.Read(c.at, c.n))
		write(t, s, c.at, strings.Repeat("x", c.n), 0, api.ErrNotFound)
	}
	for _, at := range []int{-1, -2, -64, -4096, least, least + 1} {
		noBytes(t, api.ErrInvalidArgs)(s.Read(at, 1))
		noBytes(t, api.ErrInvalidArgs)(s.Read(at, 4096))
		write(t, s, at, "x", 0, api.ErrInvalidArgs)
		write(t, s, at, strings.Repeat("x", 4096), 0, api.ErrInvalidArgs)
	}
	memory(t, set, 1, 0, strings.Repeat("a", 128))
	memory(t, set, 2, 0, strings.Repeat("b", 128))
}

// P10.3, P10.4: each part must have the protection, whichever it is of those that are touched; nothing is written ahead of that.
func TestProtectionOfEachPart(t *testing.T) {
	for wrong := range 3 {
		for prot := range 4 {
			set := vmo.New(8, 8)
			s := New(set, 256, 3)
			for i := range 3 {
				id := create(t, set, 64, "a")
				p := 3
				if i == wrong {
					p = prot
				}
				place(t, s, 64*i, 64, id, 0, p, 64*i)
			}
			if prot&1 != 0 {
				read(t, s, 0, strings.Repeat("a", 192))
			} else {
				noBytes(t, api.ErrAccessDenied)(s.Read(0, 192))
				noBytes(t, api.ErrAccessDenied)(s.Read(64*wrong, 1))
				noBytes(t, api.ErrAccessDenied)(s.Read(64*wrong+63, 1))
			}
			if prot&2 != 0 {
				write(t, s, 0, strings.Repeat("b", 192), 192, api.OK)
				continue
			}
			write(t, s, 0, strings.Repeat("b", 192), 0, api.ErrAccessDenied)
			write(t, s, 64*wrong+63, "b", 0, api.ErrAccessDenied)
			for id := 1; id <= 3; id++ {
				memory(t, set, id, 0, strings.Repeat("a", 64))
			}
		}
	}
}

// P10.3: the protection is asked ahead of what the objects say; then the first object's status that is not OK is told.
func TestReadOfObjectsThatRefuse(t *testing.T) {
	set := vmo.New(8, 8)
	for range 4 {
		create(t, set, 128, "a")
	}
	s := New(set, 512, 4)
	place(t, s, 0, 64, 1, 0, 1, 0)
	place(t, s, 64, 128, 2, 0, 1, 64)
	place(t, s, 192, 64, 3, 0, 3, 192)
	place(t, s, 256, 64, 4, 0, 2, 256)
	set.Resize(2, 64)
	set.Drop(3)
	read(t, s, 0, strings.Repeat("a", 128))
	noBytes(t, api.ErrOutOfRange)(s.Read(0, 129))
	noBytes(t, api.ErrOutOfRange)(s.Read(127, 2))
	noBytes(t, api.ErrOutOfRange)(s.Read(128, 128))
	noBytes(t, api.ErrNotFound)(s.Read(192, 1))
	noBytes(t, api.ErrAccessDenied)(s.Read(0, 257))
	noBytes(t, api.ErrAccessDenied)(s.Read(192, 128))
	set.Resize(2, 128)
	read(t, s, 64, strings.Repeat("a", 64)+strings.Repeat("\x00", 64))
	noBytes(t, api.ErrNotFound)(s.Read(0, 193))
}

// P10.4: the parts of several objects are written, each from its place on, and nothing beside them.
func TestWrite(t *testing.T) {
	set := vmo.New(8, 8)
	a, b := create(t, set, 128, "a"), create(t, set, 128, "b")
	s := New(set, 512, 4)
	place(t, s, 64, 64, b, 64, 3, 64)
	place(t, s, 128, 64, a, 0, 2, 128)
	place(t, s, 192, 64, b, 0, 2, 192)
	write(t, s, 126, "wx", 2, api.OK)
	write(t, s, 127, strings.Repeat("y", 66), 66, api.OK)
	memory(t, set, a, 0, strings.Repeat("y", 64)+strings.Repeat("a", 64))
	memory(t, set, b, 0, "y"+strings.Repeat("b", 125)+"wy")
	write(t, s, 64, "z", 1, api.OK)
	write(t, s, 255, "z", 1, api.OK)
	memory(t, set, b, 62, "bzz")
}

// P10.4: parts of one object that are the same bytes are written one behind the other: the last one stands.
func TestWriteOfOnePageTwice(t *testing.T) {
	set := vmo.New(8, 8)
	id := create(t, set, 64, "-")
	window, _ := set.Slice(id, 0, 64)
	s := New(set, 512, 4)
	place(t, s, 0, 64, id, 0, 3, 0)
	place(t, s, 64, 64, id, 0, 3, 64)
	place(t, s, 128, 64, window, 0, 3, 128)
	write(t, s, 62, "ab"+strings.Repeat("c", 64)+"de", 68, api.OK)
	memory(t, set, id, 0, "de"+strings.Repeat("c", 62))
	read(t, s, 126, "ccde")
}

// P10.4: what was written ahead of the first part that can't be stays; what lies behind it is not written.
func TestWriteUpTo(t *testing.T) {
	set := vmo.New(8, 8)
	for range 4 {
		create(t, set, 64, "a")
	}
	s := New(set, 512, 4)
	for i := range 4 {
		place(t, s, 64*i, 64, 1+i, 0, 3, 64*i)
	}
	set.Resize(3, 0)
	write(t, s, 10, strings.Repeat("b", 200), 118, api.ErrOutOfRange)
	memory(t, set, 1, 0, strings.Repeat("a", 10)+strings.Repeat("b", 54))
	memory(t, set, 2, 0, strings.Repeat("b", 64))
	memory(t, set, 4, 0, strings.Repeat("a", 64))
	set.Drop(2)
	write(t, s, 63, strings.Repeat("c", 190), 1, api.ErrNotFound)
	memory(t, set, 1, 62, "bc")
	memory(t, set, 4, 0, strings.Repeat("a", 64))
	write(t, s, 64, "d", 0, api.ErrNotFound)
	write(t, s, 128, strings.Repeat("d", 65), 0, api.ErrOutOfRange)
	memory(t, set, 4, 0, strings.Repeat("a", 64))
	status(t, api.OK, s.Protect(192, 64, 1))
	write(t, s, 0, strings.Repeat("e", 256), 0, api.ErrAccessDenied)
	memory(t, set, 1, 0, "a")
}

// P10.4: a part whose pages can't all be committed is not written at all, those ahead of it are.
func TestWriteNoMemory(t *testing.T) {
	set := vmo.New(3, 4)
	a, _ := set.Create(192)
	b, _ := set.Create(192)
	s := New(set, 512, 4)
	place(t, s, 0, 64, a, 0, 3, 0)
	place(t, s, 64, 192, b, 0, 3, 64)
	write(t, s, 0, strings.Repeat("x", 256), 64, api.ErrNoMemory)
	if set.Room() != 2 {
		t.Errorf("%d frames are free; right is 2", set.Room())
	}
	memory(t, set, a, 0, strings.Repeat("x", 64))
	memory(t, set, b, 0, strings.Repeat("\x00", 192))
	write(t, s, 0, strings.Repeat("y", 192), 192, api.OK)
	write(t, s, 191, "zz", 0, api.ErrNoMemory)
	read(t, s, 190, "yy\x00")
}

// P10.4: a page that is shared with a snapshot is the writer's own by that; the snapshot is not written.
func TestWriteOfSnapshots(t *testing.T) {
	set := vmo.New(2, 4)
	id := create(t, set, 64, "a")
	child, _ := set.Snapshot(id, 0, 64)
	s := New(set, 512, 4)
	place(t, s, 0, 64, id, 0, 3, 0)
	place(t, s, 64, 64, child, 0, 3, 64)
	write(t, s, 0, "b", 1, api.OK)
	read(t, s, 0, "ba")
	read(t, s, 64, "aa")
	write(t, s, 63, "cd", 2, api.OK)
	memory(t, set, id, 62, "ac")
	memory(t, set, child, 0, "da")
}

// P10.1: two spaces over one set see each other's bytes, and nothing else of each other.
func TestTwoSpaces(t *testing.T) {
	set := vmo.New(8, 8)
	id := create(t, set, 128, "a")
	x, y := New(set, 256, 2), New(set, 128, 1)
	place(t, x, 64, 64, id, 64, 3, 64)
	place(t, y, 0, 128, id, 0, 1, 0)
	write(t, x, 66, "bc", 2, api.OK)
	read(t, y, 65, "abca")
	write(t, y, 66, "d", 0, api.ErrAccessDenied)
	x.Clear()
	read(t, y, 65, "abca")
	uses(t, x, id, 0)
	uses(t, y, id, 1)
	set.Write(id, 67, []byte("e"))
	read(t, y, 65, "abea")
	other := New(vmo.New(8, 8), 256, 2)
	no(t, api.ErrNotFound)(other.Map(0, 64, id, 0, 3))
}

// P10.5: what is handed in is not changed or kept, its spare room neither.
func TestHandedIn(t *testing.T) {
	set, s := three(t)
	room := []byte("0123456789")
	b := room[2:5]
	write(t, s, 127, string(room[:0]), 0, api.OK)
	if n, e := s.Write(127, b); n != 3 || e != api.OK {
		t.Errorf("Write: %d, %d", n, e)
	}
	if n, e := s.Write(191, b); n != 0 || e != api.ErrAccessDenied {
		t.Errorf("Write: %d, %d", n, e)
	}
	if string(room) != "0123456789" {
		t.Errorf("handed in: %q", room)
	}
	for i := range room {
		room[i] = 'X'
	}
	read(t, s, 126, "a234a")
	memory(t, set, 1, 62, "a234a")
}

// P10.5: what is told shares nothing with the space, its set, or what else is told, its spare room neither.
func TestTold(t *testing.T) {
	set, s := three(t)
	spoilBytes := func(b []byte) {
		b = b[:cap(b)]
		for i := range b {
			b[i] = 'X'
		}
	}
	spoil := func(pieces []region.Piece) {
		pieces = pieces[:cap(pieces)]
		for i := range pieces {
			pieces[i] = piece(-1, -1, -1, -1, -1)
		}
	}
	first, _ := s.Read(100, 60)
	second, _ := s.Read(100, 60)
	spoilBytes(first)
	if !bytes.Equal(second, bytes.Repeat([]byte("a"), 60)) {
		t.Errorf("two Reads share memory: %q", second)
	}
	spoilBytes(second)
	memory(t, set, 1, 0, strings.Repeat("a", 128))
	told, again := s.Pieces(), s.Pieces()
	spoil(told)
	if again[0] != (piece(64, 128, 1, 0, 3)) {
		t.Errorf("two Pieces share memory: %v", again)
	}
	spoil(again)
	asThree(t, s)
	cut, _ := s.Unmap(192, 64)
	spoil(cut)
	holds(t, s, piece(64, 128, 1, 0, 3), piece(320, 64, 2, 0, 2))
	cleared := s.Clear()
	place(t, s, 0, 64, 1, 0, 3, 0)
	if cleared[0] != (piece(64, 128, 1, 0, 3)) {
		t.Errorf("what was cleared has changed: %v", cleared)
	}
	spoil(cleared)
	holds(t, s, piece(0, 64, 1, 0, 3))
}

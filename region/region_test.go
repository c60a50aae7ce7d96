package region

import (
	"slices"
	"testing"

	"jacinth/api"
)

const (
	most  = 1<<63 - 1
	least = -1 << 63
	page  = api.PageSize
)

// put puts pieces, all of which must be taken.
func put(t *testing.T, r *Region, pieces ...Piece) {
	t.Helper()
	for _, p := range pieces {
		if s := r.Put(p); s != api.OK {
			t.Fatalf("Put(%v): %d", p, s)
		}
	}
}

// cut cuts a range, in which just these pieces must be.
func cut(t *testing.T, r *Region, at, n int, want ...Piece) {
	t.Helper()
	if got, s := r.Cut(at, n); !slices.Equal(got, want) || s != api.OK {
		t.Fatalf("Cut(%d, %d): %v, %d; right is %v, 0", at, n, got, s, want)
	}
}

func protect(t *testing.T, r *Region, at, n, prot int) {
	t.Helper()
	if s := r.Protect(at, n, prot); s != api.OK {
		t.Fatalf("Protect(%d, %d, %d): %d", at, n, prot, s)
	}
}

// place holds the least place for n numbers against want.
func place(t *testing.T, r *Region, n, want int) {
	t.Helper()
	if at, s := r.Place(n); at != want || s != api.OK {
		t.Errorf("Place(%d): %d, %d; right is %d, 0", n, at, s, want)
	}
}

// span holds the parts of a range against want.
func span(t *testing.T, r *Region, at, n int, want ...Piece) {
	t.Helper()
	if got, s := r.Span(at, n); !slices.Equal(got, want) || s != api.OK {
		t.Errorf("Span(%d, %d): %v, %d; right is %v, 0", at, n, got, s, want)
	}
}

// holds holds all that is told of a region's pieces against those that are right.
func holds(t *testing.T, r *Region, want ...Piece) {
	t.Helper()
	if got := r.List(); !slices.Equal(got, want) {
		t.Errorf("List: %v; right is %v", got, want)
	}
	mapped := 0
	for _, p := range want {
		mapped += p.Len
		for _, at := range []int{p.At, p.At + 1, p.At + p.Len - 1} {
			if got, ok := r.Find(at); got != p || !ok {
				t.Errorf("Find(%d): %v, %t; right is %v, true", at, got, ok, p)
			}
		}
	}
	if r.Mapped() != mapped {
		t.Errorf("Mapped: %d; right is %d", r.Mapped(), mapped)
	}
}

// refused holds the statuses of calls against the one that is right.
func refused(t *testing.T, want api.Status, got ...api.Status) {
	t.Helper()
	for i, s := range got {
		if s != want {
			t.Errorf("call %d: %d; right is %d", i, s, want)
		}
	}
}

// noPlace holds what is told beside the status of a Place that is refused.
func noPlace(t *testing.T, want api.Status) func(at int, s api.Status) {
	return func(at int, s api.Status) {
		t.Helper()
		if at != 0 || s != want {
			t.Errorf("%d, %d; right is 0, %d", at, s, want)
		}
	}
}

// noPieces holds what is told beside the status of a Cut or Span that is refused.
func noPieces(t *testing.T, want api.Status) func(pieces []Piece, s api.Status) {
	return func(pieces []Piece, s api.Status) {
		t.Helper()
		if len(pieces) != 0 || s != want {
			t.Errorf("%v, %d; right is nothing, %d", pieces, s, want)
		}
	}
}

// nobody asks for the piece of numbers that none has.
func nobody(t *testing.T, r *Region, numbers ...int) {
	t.Helper()
	for _, at := range numbers {
		if p, ok := r.Find(at); p != (Piece{}) || ok {
			t.Errorf("Find(%d): %v, %t; right is none", at, p, ok)
		}
	}
}

// odd are numbers that are no multiples of PageSize.
func odd() []int {
	return []int{-65, -63, -1, 1, 2, 32, 63, 65, 127, 1<<32 - 1, 1<<32 + 1, 1<<62 + 1, most, most - 1, most - 62, least + 1}
}

// below are multiples of PageSize below 0.
func below() []int {
	return []int{-64, -128, -1 << 32, -1 << 62, least, least + 64}
}

// great are multiples of PageSize that no region has.
func great() []int {
	return []int{1<<32 + 64, 1 << 33, 1 << 40, 1 << 62, most - 63, most - 127}
}

// three makes a region of eight pages and at most so many pieces, of which three are there: two beside each other, and one.
func three(t *testing.T, most int) (*Region, []Piece) {
	t.Helper()
	r := New(512, most)
	pieces := []Piece{{64, 128, 1, 0, 3}, {192, 64, 1, 128, 3}, {320, 128, 2, 640, 1}}
	put(t, r, pieces...)
	return r, pieces
}

func TestExample(t *testing.T) {
	r := New(256, 4)
	put(t, r, Piece{0, 192, 1, 0, 3})
	cut(t, r, 64, 64, Piece{64, 64, 1, 64, 3})
	holds(t, r, Piece{0, 64, 1, 0, 3}, Piece{128, 64, 1, 128, 3})
	place(t, r, 64, 64)
	noPieces(t, api.ErrNotFound)(r.Span(60, 10))
}

// P9.1: a region of a size, without pieces; none of other sizes, or with a wrong number of pieces.
func TestNew(t *testing.T) {
	for _, size := range []int{0, 64, 128, 1 << 16, 1<<32 - 64, 1 << 32} {
		for _, pieces := range []int{0, 1, 2, 65535, 65536} {
			r := New(size, pieces)
			if r == nil {
				t.Fatalf("New(%d, %d): nil", size, pieces)
			}
			if r.Size() != size {
				t.Errorf("New(%d, %d): size %d", size, pieces, r.Size())
			}
			holds(t, r)
			nobody(t, r, 0, 1, size-1, size)
		}
	}
	for _, size := range slices.Concat(odd(), below(), great()) {
		if New(size, 1) != nil {
			t.Errorf("New(%d, 1): not nil", size)
		}
	}
	for _, pieces := range []int{-1, -64, -65536, 65537, 65600, 1 << 32, most, least} {
		if New(64, pieces) != nil {
			t.Errorf("New(64, %d): not nil", pieces)
		}
	}
}

// P9.1: pieces are there, rising, in whichever order they were put; none is put together with another.
func TestPut(t *testing.T) {
	pieces := []Piece{{0, 64, 1, 0, 3}, {64, 64, 1, 64, 3}, {128, 192, -7, 1 << 32, 0}, {384, 64, most, 64, 1}, {448, 64, least, 0, 2}}
	for _, order := range [][]int{{0, 1, 2, 3, 4}, {4, 3, 2, 1, 0}, {2, 4, 0, 1, 3}, {3, 0, 4, 2, 1}} {
		r := New(512, 5)
		for _, i := range order {
			put(t, r, pieces[i])
		}
		holds(t, r, pieces...)
		nobody(t, r, -1, 320, 383, 512, least, most)
	}
}

// P9.1: what isn't right of a piece is told ahead of all else, whatever the region holds.
func TestPutInvalid(t *testing.T) {
	full, pieces := three(t, 3)
	for _, r := range []*Region{New(512, 4), New(0, 0), full} {
		for _, n := range slices.Concat(odd(), below()) {
			refused(t, api.ErrInvalidArgs,
				r.Put(Piece{n, 64, 1, 0, 3}), r.Put(Piece{0, n, 1, 0, 3}), r.Put(Piece{0, 64, 1, n, 3}),
				r.Put(Piece{n, n, n, n, n}), r.Put(Piece{n, 1 << 40, 1, 0, 3}), r.Put(Piece{1 << 40, n, 1, 0, 3}), r.Put(Piece{1 << 40, 64, 1, n, 3}))
		}
		refused(t, api.ErrInvalidArgs, r.Put(Piece{64, 0, 1, 0, 3}), r.Put(Piece{1 << 40, 0, 1, 0, 3}), r.Put(Piece{}))
		for _, n := range great() {
			refused(t, api.ErrInvalidArgs, r.Put(Piece{0, 64, 1, n, 3}), r.Put(Piece{1 << 40, 64, 1, n, 3}))
		}
		for _, prot := range []int{-1, -2, -4, 4, 5, 7, 8, 1 << 32, 1<<32 + 1, most, least, least + 1} {
			refused(t, api.ErrInvalidArgs, r.Put(Piece{0, 64, 1, 0, prot}), r.Put(Piece{1 << 40, 64, 1, 0, prot}))
		}
	}
	holds(t, full, pieces...)
}

// P9.1: what does not lie within the region is told ahead of other pieces, and of too many.
func TestPutOutOfRange(t *testing.T) {
	full, pieces := three(t, 3)
	for _, r := range []*Region{New(512, 4), New(512, 0), full} {
		refused(t, api.ErrOutOfRange,
			r.Put(Piece{512, 64, 1, 0, 3}), r.Put(Piece{448, 128, 1, 0, 3}), r.Put(Piece{0, 576, 1, 0, 3}), r.Put(Piece{64, 512, 1, 0, 3}))
		for _, n := range great() {
			refused(t, api.ErrOutOfRange, r.Put(Piece{n, 64, 1, 0, 3}), r.Put(Piece{64, n, 1, 0, 3}), r.Put(Piece{n, n, 1, 0, 3}))
		}
	}
	refused(t, api.ErrOutOfRange, New(0, 1).Put(Piece{0, 64, 1, 0, 3}))
	holds(t, full, pieces...)
}

// P9.1: From may be MaxSize, and go on behind it; it hangs on no size of the region.
func TestPutFarFrom(t *testing.T) {
	r := New(256, 4)
	put(t, r, Piece{0, 192, 1, 1 << 32, 3})
	cut(t, r, 64, 64, Piece{64, 64, 1, 1<<32 + 64, 3})
	holds(t, r, Piece{0, 64, 1, 1 << 32, 3}, Piece{128, 64, 1, 1<<32 + 128, 3})
}

// P9.1: all places and lengths round about two pieces: what overlaps with one, and what doesn't.
func TestPutOverlaps(t *testing.T) {
	old := []Piece{{128, 128, 1, 0, 3}, {320, 64, 2, 0, 3}}
	for at := 0; at < 512; at += 64 {
		for n := 64; n <= 512-at; n += 64 {
			r := New(512, 3)
			put(t, r, old...)
			p := Piece{at, n, 3, 0, 1}
			if at < 256 && at+n > 128 || at < 384 && at+n > 320 {
				refused(t, api.ErrAlreadyExists, r.Put(p))
				holds(t, r, old...)
				continue
			}
			put(t, r, p)
			want := append([]Piece{p}, old...)
			slices.SortFunc(want, func(a, b Piece) int { return a.At - b.At })
			holds(t, r, want...)
		}
	}
}

// P9.1: as many pieces as may be, and no more; that one overlaps is told first. What is cut away makes room.
func TestPutTooMany(t *testing.T) {
	refused(t, api.ErrNoMemory, New(64, 0).Put(Piece{0, 64, 1, 0, 3}))
	r, pieces := three(t, 3)
	refused(t, api.ErrNoMemory, r.Put(Piece{0, 64, 1, 0, 3}), r.Put(Piece{256, 64, 1, 0, 3}), r.Put(Piece{448, 64, 1, 0, 3}))
	refused(t, api.ErrAlreadyExists, r.Put(Piece{64, 64, 1, 0, 3}), r.Put(Piece{0, 512, 1, 0, 3}))
	holds(t, r, pieces...)
	cut(t, r, 192, 64, pieces[1])
	put(t, r, Piece{0, 64, 9, 0, 0})
	refused(t, api.ErrNoMemory, r.Put(Piece{192, 64, 1, 0, 3}))
	holds(t, r, Piece{0, 64, 9, 0, 0}, pieces[0], pieces[2])
}

// P9.1: the greatest region, with pieces at both ends.
func TestGreatestRegion(t *testing.T) {
	r := New(1<<32, 3)
	last := Piece{1<<32 - 64, 64, 1, 0, 3}
	put(t, r, last)
	place(t, r, 1<<32-64, 0)
	noPlace(t, api.ErrNoMemory)(r.Place(1 << 32))
	put(t, r, Piece{0, 64, 2, 0, 3})
	place(t, r, 1<<32-128, 64)
	noPlace(t, api.ErrNoMemory)(r.Place(1<<32 - 64))
	put(t, r, Piece{64, 1<<32 - 128, 3, 1 << 32, 3})
	noPlace(t, api.ErrNoMemory)(r.Place(64))
	if r.Mapped() != 1<<32 {
		t.Errorf("Mapped: %d", r.Mapped())
	}
	span(t, r, 1<<32-65, 65, Piece{1<<32 - 65, 1, 3, 1<<33 - 129, 3}, last)
	noPieces(t, api.ErrNotFound)(r.Span(1<<32-65, 66))
	cut(t, r, 0, 1<<32, Piece{0, 64, 2, 0, 3}, Piece{64, 1<<32 - 128, 3, 1 << 32, 3}, last)
	holds(t, r)
	place(t, r, 1<<32, 0)
}

// P9.1, P9.2: all of 2^16 pieces, and no more by any call.
func TestAllPieces(t *testing.T) {
	r := New(1<<32, 1<<16)
	// They begin with one of three pages; the others have one page, with one free ahead of each.
	put(t, r, Piece{0, 192, 1, 0, 3})
	for i := 2; i <= 1<<16; i++ {
		put(t, r, Piece{128 * i, 64, i, 0, 3})
	}
	refused(t, api.ErrNoMemory, r.Put(Piece{1 << 31, 64, 1, 0, 3}), r.Protect(0, 64, 1), r.Protect(64, 64, 1), r.Protect(64, 128, 1))
	noPieces(t, api.ErrNoMemory)(r.Cut(64, 64))
	if got := r.List(); len(got) != 1<<16 || r.Mapped() != 1<<22+128 || got[65535] != (Piece{1 << 23, 64, 65536, 0, 3}) {
		t.Errorf("%d pieces, %d mapped, the last is %v", len(got), r.Mapped(), got[len(got)-1])
	}
	if p, ok := r.Find(128*40000 + 63); p != (Piece{128 * 40000, 64, 40000, 0, 3}) || !ok {
		t.Errorf("Find: %v, %t", p, ok)
	}
	cut(t, r, 128*40000, 64, Piece{128 * 40000, 64, 40000, 0, 3})
	protect(t, r, 0, 64, 1)
	refused(t, api.ErrNoMemory, r.Protect(64, 64, 1))
	if got, s := r.Cut(0, 1<<32); len(got) != 1<<16 || s != api.OK {
		t.Errorf("Cut of all: %d pieces, %d", len(got), s)
	}
	holds(t, r)
}

// P9.1: the least place of those that are great enough.
func TestPlace(t *testing.T) {
	r := New(1024, 8)
	place(t, r, 64, 0)
	place(t, r, 1024, 0)
	put(t, r, Piece{64, 64, 1, 0, 3}, Piece{256, 64, 1, 0, 3}, Piece{512, 64, 1, 0, 3}, Piece{640, 64, 1, 0, 3})
	place(t, r, 64, 0)
	place(t, r, 128, 128)
	place(t, r, 192, 320)
	place(t, r, 256, 704)
	place(t, r, 320, 704)
	noPlace(t, api.ErrNoMemory)(r.Place(384))
	put(t, r, Piece{0, 64, 1, 0, 3})
	place(t, r, 64, 128)
	put(t, r, Piece{704, 320, 1, 0, 3})
	place(t, r, 192, 320)
	noPlace(t, api.ErrNoMemory)(r.Place(256))
}

// P9.1: a place is told even if there are as many pieces as may be; none is taken by telling it.
func TestPlaceOfTooMany(t *testing.T) {
	place(t, New(64, 0), 64, 0)
	r, pieces := three(t, 3)
	place(t, r, 64, 0)
	place(t, r, 64, 0)
	holds(t, r, pieces...)
	noPlace(t, api.ErrNoMemory)(r.Place(128))
	noPlace(t, api.ErrNoMemory)(New(0, 1).Place(64))
}

// P9.1: lengths that aren't right, and those that no region has.
func TestPlaceRefused(t *testing.T) {
	full := New(64, 1)
	put(t, full, Piece{0, 64, 1, 0, 3})
	for _, r := range []*Region{New(1<<32, 1), New(0, 0), full} {
		noPlace(t, api.ErrInvalidArgs)(r.Place(0))
		for _, n := range slices.Concat(odd(), below()) {
			noPlace(t, api.ErrInvalidArgs)(r.Place(n))
		}
		for _, n := range great() {
			noPlace(t, api.ErrNoMemory)(r.Place(n))
		}
	}
}

// P9.2: what is cut is told, and what reaches over an end stays outside.
func TestCut(t *testing.T) {
	r, pieces := three(t, 4)
	cut(t, r, 0, 64)
	cut(t, r, 256, 64)
	cut(t, r, 448, 64)
	holds(t, r, pieces...)

	cut(t, r, 128, 256, Piece{128, 64, 1, 64, 3}, pieces[1], Piece{320, 64, 2, 640, 1})
	holds(t, r, Piece{64, 64, 1, 0, 3}, Piece{384, 64, 2, 704, 1})
	cut(t, r, 128, 256)
	cut(t, r, 0, 512, Piece{64, 64, 1, 0, 3}, Piece{384, 64, 2, 704, 1})
	holds(t, r)
	cut(t, r, 0, 512)
}

// P9.2: one piece, cut at its beginning, at its end, and in between.
func TestCutOfOne(t *testing.T) {
	whole := Piece{64, 256, 5, 640, 2}
	for _, c := range []struct {
		at, n        int
		told, behind []Piece
	}{
		{64, 256, []Piece{whole}, nil},
		{0, 512, []Piece{whole}, nil},
		{64, 64, []Piece{{64, 64, 5, 640, 2}}, []Piece{{128, 192, 5, 704, 2}}},
		{0, 128, []Piece{{64, 64, 5, 640, 2}}, []Piece{{128, 192, 5, 704, 2}}},
		{256, 64, []Piece{{256, 64, 5, 832, 2}}, []Piece{{64, 192, 5, 640, 2}}},
		{256, 256, []Piece{{256, 64, 5, 832, 2}}, []Piece{{64, 192, 5, 640, 2}}},
		{128, 64, []Piece{{128, 64, 5, 704, 2}}, []Piece{{64, 64, 5, 640, 2}, {192, 128, 5, 768, 2}}},
		{0, 64, nil, []Piece{whole}},
		{320, 192, nil, []Piece{whole}},
	} {
		r := New(512, 2)
		put(t, r, whole)
		cut(t, r, c.at, c.n, c.told...)
		holds(t, r, c.behind...)
	}
}

// P9.2: what can't be cut, or protected, is told in the promise's order.
func TestRangesRefused(t *testing.T) {
	full, pieces := three(t, 3)
	for _, r := range []*Region{full, New(512, 0), New(0, 0)} {
		for _, n := range slices.Concat(odd(), below()) {
			for _, other := range []int{0, 64, 512, 1 << 40, most, -1, least} {
				noPieces(t, api.ErrInvalidArgs)(r.Cut(n, other))
				noPieces(t, api.ErrInvalidArgs)(r.Cut(other, n))
				refused(t, api.ErrInvalidArgs, r.Protect(n, other, 1), r.Protect(other, n, 1))
			}
		}
		for _, at := range []int{0, 64, 512, 1 << 40} {
			noPieces(t, api.ErrInvalidArgs)(r.Cut(at, 0))
			refused(t, api.ErrInvalidArgs, r.Protect(at, 0, 1))
		}
		for _, n := range append(great(), 576, 640) {
			noPieces(t, api.ErrOutOfRange)(r.Cut(n, 64))
			noPieces(t, api.ErrOutOfRange)(r.Cut(0, n))
			noPieces(t, api.ErrOutOfRange)(r.Cut(64, n))
			noPieces(t, api.ErrOutOfRange)(r.Cut(n, n))
			refused(t, api.ErrOutOfRange, r.Protect(n, 64, 1), r.Protect(0, n, 1), r.Protect(64, n, 1), r.Protect(n, n, 1))
		}
		noPieces(t, api.ErrOutOfRange)(r.Cut(512, 64))
		refused(t, api.ErrOutOfRange, r.Protect(512, 64, 1), r.Protect(64, 512, 1))
	}
	holds(t, full, pieces...)
}

// P9.2: wrong protections are told ahead of a range that isn't there.
func TestProtectWrongly(t *testing.T) {
	r, pieces := three(t, 9)
	for _, prot := range []int{-1, -2, -4, 4, 5, 7, 8, 1 << 32, 1<<32 + 3, most, least, least + 1} {
		refused(t, api.ErrInvalidArgs, r.Protect(64, 64, prot), r.Protect(0, 64, prot), r.Protect(512, 64, prot), r.Protect(1<<40, 64, prot), r.Protect(1, 1, prot))
	}
	holds(t, r, pieces...)
}

// P9.2: a cut that makes two of one needs room for one more; it changes nothing without.
func TestCutWithoutRoom(t *testing.T) {
	r := New(512, 2)
	old := []Piece{{0, 192, 1, 0, 3}, {192, 64, 2, 0, 3}}
	put(t, r, old...)
	noPieces(t, api.ErrNoMemory)(r.Cut(64, 64))
	holds(t, r, old...)
	cut(t, r, 128, 128, Piece{128, 64, 1, 128, 3}, old[1])
	cut(t, r, 64, 64, Piece{64, 64, 1, 64, 3})
	holds(t, r, Piece{0, 64, 1, 0, 3})
}

// P9.2: with as many pieces as may be, one is cut in two if others are cut away by the same.
func TestCutIntoRoom(t *testing.T) {
	r := New(512, 3)
	put(t, r, Piece{0, 128, 1, 0, 3}, Piece{128, 64, 2, 0, 3}, Piece{192, 128, 3, 0, 3})
	cut(t, r, 64, 192, Piece{64, 64, 1, 64, 3}, Piece{128, 64, 2, 0, 3}, Piece{192, 64, 3, 0, 3})
	put(t, r, Piece{64, 192, 4, 0, 1})
	noPieces(t, api.ErrNoMemory)(r.Cut(128, 64))
	holds(t, r, Piece{0, 64, 1, 0, 3}, Piece{64, 192, 4, 0, 1}, Piece{256, 64, 3, 64, 3})
}

// P9.2: pieces are cut at both ends of what is protected, and stay cut.
func TestProtect(t *testing.T) {
	r, pieces := three(t, 5)
	protect(t, r, 64, 192, 1)
	holds(t, r, Piece{64, 128, 1, 0, 1}, Piece{192, 64, 1, 128, 1}, pieces[2])
	protect(t, r, 128, 128, 2)
	holds(t, r, Piece{64, 64, 1, 0, 1}, Piece{128, 64, 1, 64, 2}, Piece{192, 64, 1, 128, 2}, pieces[2])
	protect(t, r, 320, 64, 0)
	behind := []Piece{{320, 64, 2, 640, 0}, {384, 64, 2, 704, 1}}
	holds(t, r, append([]Piece{{64, 64, 1, 0, 1}, {128, 64, 1, 64, 2}, {192, 64, 1, 128, 2}}, behind...)...)
	protect(t, r, 64, 192, 3)
	holds(t, r, append([]Piece{{64, 64, 1, 0, 3}, {128, 64, 1, 64, 3}, {192, 64, 1, 128, 3}}, behind...)...)
}

// P9.2: what has the protection already is cut too.
func TestProtectAsItIs(t *testing.T) {
	r := New(512, 3)
	put(t, r, Piece{64, 320, 7, 128, 2})
	protect(t, r, 64, 320, 2)
	holds(t, r, Piece{64, 320, 7, 128, 2})
	protect(t, r, 128, 64, 2)
	holds(t, r, Piece{64, 64, 7, 128, 2}, Piece{128, 64, 7, 192, 2}, Piece{192, 192, 7, 256, 2})
}

// P9.2: ranges of which not all is mapped, whatever else there is in them, stay as they are.
func TestProtectOfWhatIsNotMapped(t *testing.T) {
	r, pieces := three(t, 3)
	for _, c := range []struct{ at, n int }{{0, 64}, {0, 128}, {0, 512}, {256, 64}, {192, 128}, {64, 384}, {448, 64}, {384, 128}, {128, 256}} {
		refused(t, api.ErrNotFound, r.Protect(c.at, c.n, 1))
	}
	refused(t, api.ErrNotFound, New(64, 0).Protect(0, 64, 1))
	holds(t, r, pieces...)
}

// P9.2: each end that is not a piece's own needs room for one piece more.
func TestProtectWithoutRoom(t *testing.T) {
	whole := Piece{64, 256, 1, 0, 3}
	for spare := range 3 {
		for _, c := range []struct{ at, n, more int }{{64, 256, 0}, {64, 64, 1}, {64, 192, 1}, {256, 64, 1}, {128, 192, 1}, {128, 64, 2}, {128, 128, 2}} {
			r := New(512, 1+spare)
			put(t, r, whole)
			if c.more > spare {
				refused(t, api.ErrNoMemory, r.Protect(c.at, c.n, 1), r.Protect(c.at, c.n, 3))
				holds(t, r, whole)
				continue
			}
			protect(t, r, c.at, c.n, 1)
			if got := len(r.List()); got != 1+c.more {
				t.Errorf("Protect(%d, %d, 1): %d pieces", c.at, c.n, got)
			}
		}
	}
	r, pieces := three(t, 4)
	refused(t, api.ErrNotFound, r.Protect(128, 256, 1))
	protect(t, r, 128, 128, 1)
	refused(t, api.ErrNoMemory, r.Protect(320, 64, 0))
	holds(t, r, Piece{64, 64, 1, 0, 3}, Piece{128, 64, 1, 64, 1}, Piece{192, 64, 1, 128, 1}, pieces[2])
}

// P9.3: all numbers round about the pieces.
func TestFind(t *testing.T) {
	r, pieces := three(t, 3)
	for at := -70; at < 600; at++ {
		var want Piece
		for _, p := range pieces {
			if at >= p.At && at < p.At+p.Len {
				want = p
			}
		}
		if got, ok := r.Find(at); got != want || ok != (want != Piece{}) {
			t.Errorf("Find(%d): %v, %t; right is %v", at, got, ok, want)
		}
	}
	nobody(t, r, slices.Concat(below(), great())...)
	nobody(t, r, least, least+1, most, most-1, 1<<32+64)
}

// P9.3: the parts of a range, cut to its numbers.
func TestSpan(t *testing.T) {
	r, pieces := three(t, 3)
	span(t, r, 64, 192, pieces[:2]...)
	span(t, r, 320, 128, pieces[2])
	span(t, r, 64, 1, Piece{64, 1, 1, 0, 3})
	span(t, r, 255, 1, Piece{255, 1, 1, 191, 3})
	span(t, r, 191, 2, Piece{191, 1, 1, 127, 3}, Piece{192, 1, 1, 128, 3})
	span(t, r, 100, 130, Piece{100, 92, 1, 36, 3}, Piece{192, 38, 1, 128, 3})
	span(t, r, 321, 126, Piece{321, 126, 2, 641, 1})
	for _, c := range []struct{ at, n int }{{63, 1}, {63, 2}, {0, 1}, {255, 2}, {256, 1}, {319, 2}, {255, 66}, {64, 384}, {447, 2}, {448, 1}, {448, 64}, {448, 65}, {511, 1}, {511, 2}, {512, 1}} {
		noPieces(t, api.ErrNotFound)(r.Span(c.at, c.n))
	}
}

// P9.3: no numbers have no parts, wherever they are up to the size.
func TestSpanOfNothing(t *testing.T) {
	r, _ := three(t, 3)
	for _, at := range []int{0, 1, 63, 64, 65, 191, 192, 256, 300, 511, 512} {
		span(t, r, at, 0)
	}
	for _, at := range []int{513, 576, 1 << 32, 1<<32 + 1, most} {
		noPieces(t, api.ErrNotFound)(r.Span(at, 0))
	}
	span(t, New(0, 0), 0, 0)
	noPieces(t, api.ErrNotFound)(New(0, 0).Span(1, 0))
	noPieces(t, api.ErrNotFound)(New(0, 0).Span(0, 1))
}

// P9.3: numbers below 0 are told ahead of what is not there; great ones, those that together are no number too, are not there.
func TestSpanRefused(t *testing.T) {
	r, _ := three(t, 3)
	full := New(512, 1)
	put(t, full, Piece{0, 512, 1, 0, 3})
	for _, r := range []*Region{r, full} {
		for _, n := range []int{-1, -2, -63, -64, -512, -1 << 32, least, least + 1} {
			for _, other := range []int{0, 1, 64, 512, 513, 1 << 40, most, -1, least} {
				noPieces(t, api.ErrInvalidArgs)(r.Span(n, other))
				noPieces(t, api.ErrInvalidArgs)(r.Span(other, n))
			}
		}
		for _, n := range []int{513, 576, 1 << 32, 1 << 62, most - 64, most - 1, most} {
			for _, other := range []int{0, 1, 64, 65, 512} {
				noPieces(t, api.ErrNotFound)(r.Span(n, other))
				noPieces(t, api.ErrNotFound)(r.Span(other, n))
			}
			noPieces(t, api.ErrNotFound)(r.Span(n, n))
		}
	}
	span(t, full, 0, 512, Piece{0, 512, 1, 0, 3})
	span(t, full, 511, 1, Piece{511, 1, 1, 511, 3})
	noPieces(t, api.ErrNotFound)(full.Span(1, 512))
}

// P9.3: how many numbers are mapped, step by step; the size stays.
func TestMapped(t *testing.T) {
	r := New(512, 4)
	steps := []struct {
		do   func()
		want int
	}{
		{func() {}, 0},
		{func() { put(t, r, Piece{128, 256, 1, 0, 3}) }, 256},
		{func() { put(t, r, Piece{448, 64, 1, 0, 0}) }, 320},
		{func() { refused(t, api.ErrAlreadyExists, r.Put(Piece{64, 128, 1, 0, 3})) }, 320},
		{func() { protect(t, r, 192, 64, 0) }, 320},
		{func() { _, _ = r.Cut(0, 192) }, 256},
		{func() { _, _ = r.Cut(0, 512) }, 0},
	}
	for i, c := range steps {
		c.do()
		if r.Mapped() != c.want || r.Size() != 512 {
			t.Errorf("step %d: %d mapped, size %d; right is %d, 512", i, r.Mapped(), r.Size(), c.want)
		}
	}
}

// spoil changes a list and its spare room.
func spoil(pieces []Piece) {
	pieces = pieces[:cap(pieces)]
	for i := range pieces {
		pieces[i] = Piece{-1, -1, -1, -1, -1}
	}
}

// P9.4: what is told is new memory, its spare room too: nothing else changes with it.
func TestToldIsNewMemory(t *testing.T) {
	r, pieces := three(t, 8)
	told := func() [][]Piece {
		one, _ := r.Span(64, 192)
		two, _ := r.Span(70, 100)
		return [][]Piece{r.List(), r.List(), one, two}
	}
	right := told()
	for i := range right {
		now := told()
		spoil(now[i])
		for j := range now {
			if j != i && !slices.Equal(now[j], right[j]) {
				t.Errorf("list %d changed with list %d", j, i)
			}
		}
		holds(t, r, pieces...)
	}
	for _, c := range []struct{ at, n int }{{128, 64}, {320, 64}, {0, 512}} {
		listed := r.List()
		before := slices.Clone(listed)
		first, s := r.Cut(c.at, c.n)
		if s != api.OK {
			t.Fatalf("Cut: %d", s)
		}
		behind := r.List()
		if !slices.Equal(listed, before) {
			t.Errorf("Cut(%d, %d) changed a list that was told", c.at, c.n)
		}
		kept := slices.Clone(first)
		spoil(behind)
		if !slices.Equal(first, kept) {
			t.Errorf("Cut(%d, %d): what was cut changed", c.at, c.n)
		}
		behind = r.List()
		spoil(first)
		holds(t, r, behind...)
	}
}

// P9.4: what was told stays as it was, whatever is done then.
func TestToldStays(t *testing.T) {
	r, pieces := three(t, 8)
	list := r.List()
	parts, _ := r.Span(64, 192)
	cuts, _ := r.Cut(320, 64)
	protect(t, r, 64, 128, 0)
	put(t, r, Piece{0, 64, 4, 0, 1}, Piece{320, 64, 5, 0, 1})
	cut(t, r, 0, 128, Piece{0, 64, 4, 0, 1}, Piece{64, 64, 1, 0, 0})
	put(t, r, Piece{0, 64, 6, 0, 1})
	if !slices.Equal(list, pieces) || !slices.Equal(parts, pieces[:2]) || !slices.Equal(cuts, []Piece{{320, 64, 2, 640, 1}}) {
		t.Errorf("told lists changed: %v, %v, %v", list, parts, cuts)
	}
}

func TestRegionsAreApart(t *testing.T) {
	one, pieces := three(t, 4)
	two := New(512, 4)
	put(t, two, Piece{128, 64, 9, 0, 0})
	cut(t, two, 0, 512, Piece{128, 64, 9, 0, 0})
	holds(t, one, pieces...)
	holds(t, two)
}

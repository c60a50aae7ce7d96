package num

import (
	"math/big"
	"testing"

	"jacinth/api"
)

const (
	most  = 1<<63 - 1
	least = -1 << 63
)

// edges are numbers round about where something begins or ends.
func edges() []int {
	return []int{
		least, least + 1, least + 63, least + 64, -1 << 62, -1<<62 - 1, -1<<32 - 1, -1 << 32, -1 << 31,
		-3037000500, -3037000499, -65, -64, -63, -3, -2, -1,
		0, 1, 2, 3, 5, 62, 63, 64, 65, 127, 128, 129,
		1<<31 - 1, 1 << 31, 1<<31 + 1, 3037000499, 3037000500, 1 << 32, 1<<32 + 1,
		1<<62 - 1, 1 << 62, 1<<62 + 1, most - 128, most - 64, most - 63, most - 2, most - 1, most,
	}
}

// small are numbers of which all groups of four can be tried.
func small() []int {
	return []int{least, -2, -1, 0, 1, 2, 3, 4, 5, 7, most - 2, most - 1, most}
}

// number is what a whole number is as an int, 0 and false if it is none.
func number(n *big.Int) (int, bool) {
	if !n.IsInt64() {
		return 0, false
	}
	return int(n.Int64()), true
}

func wide(n int) *big.Int { return big.NewInt(int64(n)) }

func sum(a, b int) *big.Int { return new(big.Int).Add(wide(a), wide(b)) }

// P1.1: sums, differences and products, written out.
func TestArithmeticByHand(t *testing.T) {
	rows := []struct {
		name string
		call func(a, b int) (int, bool)
		a, b int
		want int
		ok   bool
	}{
		{"Add", Add, 2, 3, 5, true},
		{"Add", Add, -2, -3, -5, true},
		{"Add", Add, most, 1, 0, false},
		{"Add", Add, 1, most, 0, false},
		{"Add", Add, most - 1, 1, most, true},
		{"Add", Add, most, most, 0, false},
		{"Add", Add, least, -1, 0, false},
		{"Add", Add, least, least, 0, false},
		{"Add", Add, least, most, -1, true},
		{"Add", Add, least, 0, least, true},
		{"Sub", Sub, 2, 3, -1, true},
		{"Sub", Sub, least, 1, 0, false},
		{"Sub", Sub, least + 1, 1, least, true},
		{"Sub", Sub, -1, least, most, true},
		{"Sub", Sub, 0, least, 0, false},
		{"Sub", Sub, least, least, 0, true},
		{"Sub", Sub, most, -1, 0, false},
		{"Sub", Sub, most, most, 0, true},
		{"Mul", Mul, 6, 7, 42, true},
		{"Mul", Mul, -6, 7, -42, true},
		{"Mul", Mul, 6, -7, -42, true},
		{"Mul", Mul, -6, -7, 42, true},
		{"Mul", Mul, 0, least, 0, true},
		{"Mul", Mul, most, 0, 0, true},
		{"Mul", Mul, 1 << 32, -1 << 31, least, true},
		{"Mul", Mul, 1 << 32, 1 << 31, 0, false},
		{"Mul", Mul, least, 1, least, true},
		{"Mul", Mul, least, -1, 0, false},
		{"Mul", Mul, -1, least, 0, false},
		{"Mul", Mul, least, least, 0, false},
		{"Mul", Mul, most, -1, least + 1, true},
		{"Mul", Mul, most, most, 0, false},
		{"Mul", Mul, 1 << 62, 4, 0, false},
		{"Mul", Mul, -1 << 62, 2, least, true},
	}
	for _, r := range rows {
		if got, ok := r.call(r.a, r.b); got != r.want || ok != r.ok {
			t.Errorf("%s(%d, %d): %d, %t, not %d, %t", r.name, r.a, r.b, got, ok, r.want, r.ok)
		}
	}
}

// P1.1: all pairs of edges, held against whole numbers without an end.
func TestArithmeticAtEdges(t *testing.T) {
	for _, a := range edges() {
		for _, b := range edges() {
			check(t, "Add", Add, a, b, sum(a, b))
			check(t, "Sub", Sub, a, b, new(big.Int).Sub(wide(a), wide(b)))
			check(t, "Mul", Mul, a, b, new(big.Int).Mul(wide(a), wide(b)))
		}
	}
}

func check(t *testing.T, name string, call func(a, b int) (int, bool), a, b int, whole *big.Int) {
	t.Helper()
	want, right := number(whole)
	if got, ok := call(a, b); got != want || ok != right {
		t.Errorf("%s(%d, %d): %d, %t, not %d, %t", name, a, b, got, ok, want, right)
	}
}

// P1.2: multiples, written out.
func TestMultiplesByHand(t *testing.T) {
	rows := []struct {
		n, to    int
		down     int
		downOK   bool
		up       int
		upOK     bool
		whatItIs string
	}{
		{65, 64, 64, true, 128, true, "between"},
		{64, 64, 64, true, 64, true, "a multiple"},
		{63, 64, 0, true, 64, true, "below the first"},
		{0, 64, 0, true, 0, true, "nought"},
		{7, 1, 7, true, 7, true, "multiples of 1"},
		{7, 3, 6, true, 9, true, "no power of 2"},
		{1, most, 0, true, most, true, "a great step"},
		{most, most, most, true, most, true, "the greatest"},
		{most, 64, most - 63, true, 0, false, "no number above"},
		{most - 63, 64, most - 63, true, most - 63, true, "the last multiple"},
		{most - 62, 64, most - 63, true, 0, false, "behind the last multiple"},
		{most, 2, most - 1, true, 0, false, "2^63 is no number"},
		{5, 0, 0, false, 0, false, "to is 0"},
		{5, -1, 0, false, 0, false, "to is below 0"},
		{5, least, 0, false, 0, false, "to is far below 0"},
		{-1, 64, 0, false, 0, false, "n is below 0"},
		{-64, 64, 0, false, 0, false, "n is a multiple below 0"},
		{least, least, 0, false, 0, false, "both are below 0"},
		{0, 0, 0, false, 0, false, "both are 0"},
	}
	for _, r := range rows {
		if got, ok := Down(r.n, r.to); got != r.down || ok != r.downOK {
			t.Errorf("%s: Down(%d, %d): %d, %t", r.whatItIs, r.n, r.to, got, ok)
		}
		if got, ok := Up(r.n, r.to); got != r.up || ok != r.upOK {
			t.Errorf("%s: Up(%d, %d): %d, %t", r.whatItIs, r.n, r.to, got, ok)
		}
	}
}

// P1.2: at all pairs of edges, told by what multiples are.
func TestMultiplesAtEdges(t *testing.T) {
	for _, n := range edges() {
		for _, to := range edges() {
			down, downOK := Down(n, to)
			up, upOK := Up(n, to)
			if n < 0 || to < 1 {
				if down != 0 || downOK || up != 0 || upOK {
					t.Errorf("Down, Up(%d, %d): %d, %t, %d, %t", n, to, down, downOK, up, upOK)
				}
				continue
			}
			if !downOK || down%to != 0 || down > n || n-down >= to {
				t.Errorf("Down(%d, %d): %d, %t", n, to, down, downOK)
			}
			above := wide(n / to * to)
			if n%to != 0 {
				above.Add(above, wide(to))
			}
			if want, right := number(above); up != want || upOK != right {
				t.Errorf("Up(%d, %d): %d, %t, not %d, %t", n, to, up, upOK, want, right)
			}
		}
	}
}

// P1.3: what lies within, written out.
func TestWithinByHand(t *testing.T) {
	rows := []struct {
		at, n, size int
		want        bool
	}{
		{4, 6, 10, true},
		{4, 7, 10, false},
		{0, 10, 10, true},
		{0, 11, 10, false},
		{10, 0, 10, true},
		{11, 0, 10, false},
		{0, 0, 0, true},
		{0, 1, 0, false},
		{-1, 1, 10, false},
		{1, -1, 10, false},
		{0, 0, -1, false},
		{0, 0, least, false},
		{-5, -5, -10, false},
		{1, most, most, false},
		{most, 1, most, false},
		{most, most, most, false},
		{0, most, most, true},
		{most, 0, most, true},
		{1, most - 1, most, true},
		{most, most, least, false},
		{most, most, -2, false},
	}
	for _, r := range rows {
		if got := Within(r.at, r.n, r.size); got != r.want {
			t.Errorf("Within(%d, %d, %d): %t", r.at, r.n, r.size, got)
		}
	}
}

// P1.3: what lies within, at all groups of three edges.
func TestWithinAtEdges(t *testing.T) {
	for _, at := range edges() {
		for _, n := range edges() {
			end := sum(at, n)
			for _, size := range edges() {
				want := at >= 0 && n >= 0 && end.Cmp(wide(size)) <= 0
				if got := Within(at, n, size); got != want {
					t.Errorf("Within(%d, %d, %d): %t", at, n, size, got)
				}
			}
		}
	}
}

// P1.3: what overlaps, written out.
func TestOverlapByHand(t *testing.T) {
	rows := []struct {
		a, n, b, m int
		want       bool
	}{
		{0, 5, 4, 1, true},
		{0, 4, 4, 1, false},
		{4, 1, 0, 5, true},
		{4, 1, 0, 4, false},
		{3, 3, 3, 3, true},
		{0, 10, 4, 2, true},
		{4, 2, 0, 10, true},
		{0, 0, 0, 1, false},
		{0, 1, 0, 0, false},
		{0, 0, 0, 0, false},
		{4, 0, 0, 10, false},
		{0, 10, 4, 0, false},
		{5, 1, 0, most, true},
		{most, 1, most, 1, true},
		{most, 1, 0, most, false},
		{most, most, most, most, true},
		{most - 1, 2, most, 1, true},
		{0, most, most, most, false},
		{1, most, most, most, true},
		{-1, 5, 0, 5, false},
		{0, -1, 0, 5, false},
		{0, 5, -1, 5, false},
		{0, 5, 0, -1, false},
		{least, most, 0, 1, false},
		{-1, 2, -1, 2, false},
	}
	for _, r := range rows {
		if got := Overlap(r.a, r.n, r.b, r.m); got != r.want {
			t.Errorf("Overlap(%d, %d, %d, %d): %t", r.a, r.n, r.b, r.m, got)
		}
	}
}

// P1.3: what overlaps, at all groups of four: the greater beginning is below the lesser end.
func TestOverlapAtEdges(t *testing.T) {
	for _, a := range small() {
		for _, n := range small() {
			for _, b := range small() {
				for _, m := range small() {
					begin, end := wide(max(a, b)), sum(a, n)
					if other := sum(b, m); other.Cmp(end) < 0 {
						end = other
					}
					want := min(a, n, b, m) >= 0 && begin.Cmp(end) < 0
					if got := Overlap(a, n, b, m); got != want {
						t.Errorf("Overlap(%d, %d, %d, %d): %t", a, n, b, m, got)
					}
				}
			}
		}
	}
}

// P1.4: pages, written out.
func TestPagesByHand(t *testing.T) {
	rows := []struct {
		at, n        int
		first, count int
		ok           bool
	}{
		{63, 2, 0, 2, true},
		{0, 1, 0, 1, true},
		{0, 64, 0, 1, true},
		{0, 65, 0, 2, true},
		{63, 1, 0, 1, true},
		{64, 1, 1, 1, true},
		{64, 64, 1, 1, true},
		{100, 200, 1, 4, true},
		{0, 0, 0, 0, true},
		{63, 0, 0, 0, true},
		{64, 0, 1, 0, true},
		{most, 0, most / 64, 0, true},
		{most - 1, 1, most / 64, 1, true},
		{0, most, 0, 1 << 57, true},
		{1, most - 1, 0, 1 << 57, true},
		{1, most, 0, 0, false},
		{most, 1, 0, 0, false},
		{most, most, 0, 0, false},
		{-1, 1, 0, 0, false},
		{-1, 0, 0, 0, false},
		{1, -1, 0, 0, false},
		{128, -1, 0, 0, false},
		{-64, 256, 0, 0, false},
		{least, most, 0, 0, false},
		{least, least, 0, 0, false},
	}
	for _, r := range rows {
		first, count, ok := Pages(r.at, r.n)
		if first != r.first || count != r.count || ok != r.ok {
			t.Errorf("Pages(%d, %d): %d, %d, %t", r.at, r.n, first, count, ok)
		}
	}
}

// P1.4: pages, at all pairs of edges: the first and the last byte are on the first and the last page.
func TestPagesAtEdges(t *testing.T) {
	for _, at := range edges() {
		for _, n := range edges() {
			_, whole := number(sum(at, n))
			wantFirst, wantCount, right := 0, 0, min(at, n) >= 0 && whole
			if right {
				wantFirst = at / api.PageSize
			}
			if right && n > 0 {
				wantCount = (at+(n-1))/api.PageSize - wantFirst + 1
			}
			first, count, ok := Pages(at, n)
			if first != wantFirst || count != wantCount || ok != right {
				t.Errorf("Pages(%d, %d): %d, %d, %t", at, n, first, count, ok)
			}
		}
	}
}

// P1.4: pages, by going through the bytes one by one.
func TestPagesByteForByte(t *testing.T) {
	for at := range 3 * api.PageSize {
		for n := range 3 * api.PageSize {
			touched := map[int]bool{}
			for i := range n {
				touched[(at+i)/api.PageSize] = true
			}
			first, count, ok := Pages(at, n)
			if first != at/api.PageSize || count != len(touched) || !ok {
				t.Fatalf("Pages(%d, %d): %d, %d, %t", at, n, first, count, ok)
			}
		}
	}
}

// P1.5: mixed numbers, written out.
func TestMixByHand(t *testing.T) {
	rows := []struct{ n, want int }{
		{0, 3037000493},
		{1, 2862933558814942250},
		{2, 5725867114592884007},
	}
	for _, r := range rows {
		if got := Mix(r.n); got != r.want {
			t.Errorf("Mix(%d): %d, not %d", r.n, got, r.want)
		}
	}
}

// P1.5: mixed numbers, held against whole numbers without an end.
func TestMixAtEdges(t *testing.T) {
	for _, n := range edges() {
		checkMix(t, n)
	}
	n := 7
	for range 1000 {
		checkMix(t, n)
		n = Mix(n)
	}
}

func checkMix(t *testing.T, n int) {
	t.Helper()
	whole := new(big.Int).Mul(wide(n), wide(2862933555777941757))
	whole.Add(whole, wide(3037000493))
	// Modulo 2^64 without the highest bit is modulo 2^63; big's Mod is from 0 on.
	whole.Mod(whole, new(big.Int).Lsh(wide(1), 63))
	if got := Mix(n); got < 0 || wide(got).Cmp(whole) != 0 {
		t.Errorf("Mix(%d): %d, not %s", n, got, whole)
	}
}

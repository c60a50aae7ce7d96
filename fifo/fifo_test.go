package fifo

import (
	"strconv"
	"strings"
	"testing"

	"jacinth/api"
	"jacinth/signal"
)

const (
	most  = 1<<63 - 1
	least = -1 << 63
)

// strangeEnds are numbers that are no end's.
func strangeEnds() []int {
	return []int{least, least + 1, -1 << 32, -3, -2, -1, 2, 3, 4, 255, 256, 257, 1 << 16, 1 << 32, 1<<32 + 1, most - 1, most}
}

// open makes a fifo, which there must be.
func open(t *testing.T, count, size int) *Fifo {
	t.Helper()
	f := New(count, size)
	if f == nil {
		t.Fatalf("New(%d, %d): nil", count, size)
	}
	return f
}

// status holds a status against the one that is right.
func status(t *testing.T, want, got api.Status) {
	t.Helper()
	if got != want {
		t.Errorf("%d; right is %d", got, want)
	}
}

// write writes a text, of which just so many elements must come to the other end.
func write(t *testing.T, f *Fifo, end int, text string, want int) {
	t.Helper()
	if got, s := f.Write(end, []byte(text)); got != want || s != api.OK {
		t.Errorf("Write(%d, %.20q): %d, %d; right is %d, 0", end, text, got, s, want)
	}
}

// noWrite writes a text that must be refused.
func noWrite(t *testing.T, f *Fifo, end int, text string, want api.Status) {
	t.Helper()
	if got, s := f.Write(end, []byte(text)); got != 0 || s != want {
		t.Errorf("Write(%d, %.20q): %d, %d; right is 0, %d", end, text, got, s, want)
	}
}

// read takes elements out, which must be just these.
func read(t *testing.T, f *Fifo, end, n int, want string) {
	t.Helper()
	if got, s := f.Read(end, n); string(got) != want || s != api.OK {
		t.Errorf("Read(%d, %d): %.20q, %d; right is %.20q, 0", end, n, got, s, want)
	}
}

// noRead reads where nothing may be told but the status.
func noRead(t *testing.T, f *Fifo, end, n int, want api.Status) {
	t.Helper()
	if got, s := f.Read(end, n); len(got) != 0 || s != want {
		t.Errorf("Read(%d, %d): %.20q, %d; right is nothing, %d", end, n, got, s, want)
	}
}

// waits holds how many elements wait at both ends against what is right.
func waits(t *testing.T, f *Fifo, first, second int) {
	t.Helper()
	if a, b := f.Len(0), f.Len(1); a != first || b != second {
		t.Errorf("Len: %d, %d; right is %d, %d", a, b, first, second)
	}
}

// shows holds the signals of both ends against those that are right, as text.
func shows(t *testing.T, f *Fifo, first, second string) {
	t.Helper()
	if a, b := f.Shows(0).Text(), f.Shows(1).Text(); a != first || b != second {
		t.Errorf("Shows: %s, %s; right is %s, %s", a, b, first, second)
	}
}

// refused asks all of an end which is closed, or is none, and must be told this, whatever else is wrong.
func refused(t *testing.T, f *Fifo, end int, want api.Status) {
	t.Helper()
	for _, text := range []string{"", "x", "long", strings.Repeat("x", f.Size()), strings.Repeat("x", 1<<16)} {
		noWrite(t, f, end, text, want)
	}
	for _, n := range []int{least, -1, 0, 1, most} {
		noRead(t, f, end, n, want)
	}
	status(t, want, f.Close(end))
	if f.Open(end) || f.Len(end) != 0 || f.Shows(end) != 0 {
		t.Errorf("end %d: %t, %d, %d", end, f.Open(end), f.Len(end), f.Shows(end))
	}
}

// The chapter's examples.
func TestExamples(t *testing.T) {
	f := open(t, 2, 3)
	write(t, f, 0, "abcdefghi", 2)
	read(t, f, 1, 1, "abc")
	write(t, f, 0, "xyz", 1)
	read(t, f, 1, 9, "defxyz")
}

// counts are those that a fifo may have.
func counts() []int {
	return []int{1, 2, 4, 8, 16, 32, 64, 128, 256, 512, 1024}
}

// P13.1: which fifos there are: of all counts and sizes that are near to right.
func TestNew(t *testing.T) {
	had := 0
	for count := -3; count <= 4200; count++ {
		power := false
		for _, c := range counts() {
			power = power || c == count
		}
		for size := -3; size <= 130; size++ {
			f := New(count, size)
			right := power && size >= 1 && size <= 64 && count*size <= 4096
			if (f != nil) != right {
				t.Fatalf("New(%d, %d): there is one: %t", count, size, f != nil)
			}
			if f == nil {
				continue
			}
			had++
			if f.Size() != size {
				t.Errorf("New(%d, %d): Size %d", count, size, f.Size())
			}
		}
	}
	// The counts to 64 are there at all sizes; the others up to a size of 4096 parts by them.
	if had != 7*64+32+16+8+4 {
		t.Errorf("%d fifos", had)
	}
}

// P13.1: wrong numbers, such ones too as give a right product only where that goes round.
func TestNoFifo(t *testing.T) {
	far := []int{least, least + 1, -1 << 62, -1 << 32, -4096, -1024, -64, -1, 0, 1<<16 + 1, 1 << 32, 1<<32 + 1, 1 << 58, 1 << 62, most - 1, most}
	right := []int{1, 2, 4, 64}
	for _, a := range far {
		for _, b := range append(right, far...) {
			if New(a, b) != nil || New(b, a) != nil {
				t.Errorf("New(%d, %d), New(%d, %d): a fifo", a, b, b, a)
			}
		}
	}
	for _, no := range [][2]int{
		{1024, 5}, {1024, 64}, {512, 9}, {256, 17}, {128, 33}, {64, 65}, {1, 65}, {2048, 1}, {2048, 2}, {4096, 1},
		{0, 0}, {0, 1}, {1, 0}, {3, 1}, {5, 1}, {6, 1}, {7, 1}, {12, 4}, {63, 1}, {65, 1}, {1000, 1}, {1023, 1}, {1025, 1}, {-2, -2},
	} {
		if New(no[0], no[1]) != nil {
			t.Errorf("New(%d, %d): a fifo", no[0], no[1])
		}
	}
}

// P13.1: how each fifo begins.
func TestBegins(t *testing.T) {
	for _, count := range counts() {
		for size := 1; size <= 64 && count*size <= 4096; size++ {
			f := open(t, count, size)
			for end := range 2 {
				if !f.Open(end) || f.Shows(end) != signal.First(api.Fifo) {
					t.Errorf("New(%d, %d): end %d: %t, %d", count, size, end, f.Open(end), f.Shows(end))
				}
				noRead(t, f, end, 1, api.ErrShouldWait)
				noRead(t, f, end, most, api.ErrShouldWait)
			}
			waits(t, f, 0, 0)
			status(t, api.OK, f.Close(0))
			status(t, api.OK, f.Close(1))
			if f.Size() != size {
				t.Errorf("closed: Size %d; right is %d", f.Size(), size)
			}
		}
	}
}

// P13.1: two fifos have nothing in common.
func TestTwoFifos(t *testing.T) {
	a, b := open(t, 1, 1), open(t, 1, 2)
	write(t, a, 0, "a", 1)
	waits(t, b, 0, 0)
	write(t, b, 0, "bc", 1)
	status(t, api.OK, b.Close(0))
	write(t, a, 1, "d", 1)
	shows(t, a, "r", "r")
	read(t, a, 1, 1, "a")
	read(t, b, 1, 1, "bc")
	if a.Size() != 1 || b.Size() != 2 {
		t.Errorf("Size: %d, %d", a.Size(), b.Size())
	}
}

// P13.1: of what is no end nothing is told, whatever else is wrong, and nothing is done.
func TestStrangeEnds(t *testing.T) {
	f := open(t, 4, 2)
	write(t, f, 0, "aabb", 2)
	write(t, f, 1, "cc", 1)
	for _, end := range strangeEnds() {
		refused(t, f, end, api.ErrInvalidArgs)
	}
	shows(t, f, "rw", "rw")
	waits(t, f, 1, 2)
	read(t, f, 1, 1, "aa")
	read(t, f, 0, 9, "cc")
	for end := range 2 {
		status(t, api.OK, f.Close(end))
		for _, end := range strangeEnds() {
			refused(t, f, end, api.ErrInvalidArgs)
		}
	}
}

// P13.1, P13.3: of an end that is closed, whatever else is wrong; its elements are gone, the other one's stay.
func TestClosedEnds(t *testing.T) {
	for end := range 2 {
		f := open(t, 4, 2)
		write(t, f, end, "tooo", 2)
		write(t, f, 1-end, "frooom", 3)
		status(t, api.OK, f.Close(end))
		for range 2 {
			refused(t, f, end, api.ErrPeerClosed)
		}
		if !f.Open(1-end) || f.Shows(1-end).Text() != "rp" || f.Len(1-end) != 2 {
			t.Errorf("end %d: %t, %s, %d", 1-end, f.Open(1-end), f.Shows(1-end).Text(), f.Len(1-end))
		}
		read(t, f, 1-end, 1, "to")
		read(t, f, 1-end, 9, "oo")
		noRead(t, f, 1-end, 9, api.ErrPeerClosed)
		if f.Shows(1-end) != signal.PeerClosed {
			t.Errorf("end %d: %d", 1-end, f.Shows(1-end))
		}
		status(t, api.OK, f.Close(1-end))
		refused(t, f, end, api.ErrPeerClosed)
		refused(t, f, 1-end, api.ErrPeerClosed)
	}
}

// P13.3: an end may be closed when the other one is; what waits there is gone, too.
func TestCloseBoth(t *testing.T) {
	for end := range 2 {
		f := open(t, 2, 1)
		write(t, f, 0, "a", 1)
		write(t, f, 1, "b", 1)
		status(t, api.OK, f.Close(end))
		status(t, api.OK, f.Close(1-end))
		waits(t, f, 0, 0)
		shows(t, f, "-", "-")
		status(t, api.ErrPeerClosed, f.Close(end))
		status(t, api.ErrPeerClosed, f.Close(1-end))
	}
}

// P13.2: elements come behind each other, and each end's are its own.
func TestElements(t *testing.T) {
	f := open(t, 8, 2)
	write(t, f, 0, "aabbcc", 3)
	write(t, f, 1, "xxyy", 2)
	write(t, f, 0, "dd", 1)
	waits(t, f, 2, 4)
	read(t, f, 1, 2, "aabb")
	waits(t, f, 2, 2)
	write(t, f, 0, "eeffgg", 3)
	read(t, f, 1, 3, "ccddee")
	read(t, f, 1, most, "ffgg")
	noRead(t, f, 1, 1, api.ErrShouldWait)
	read(t, f, 0, 1, "xx")
	read(t, f, 0, 1, "yy")
	noRead(t, f, 0, most, api.ErrShouldWait)
	waits(t, f, 0, 0)
}

// P13.2: just whole elements are written, and one at least, even where the ring is full or the other end closed.
func TestNoElements(t *testing.T) {
	for _, size := range []int{1, 2, 3, 5, 63, 64} {
		f := open(t, 2, size)
		one := strings.Repeat("x", size)
		for range 3 {
			for n := range 5*size + 1 {
				if n == 0 || n%size != 0 {
					noWrite(t, f, 0, strings.Repeat("y", n), api.ErrOutOfRange)
				}
			}
			// The ring gets one more element, till it is full.
			if f.Len(1) < 2 {
				write(t, f, 0, one, 1)
			} else {
				noWrite(t, f, 0, one, api.ErrShouldWait)
				status(t, api.OK, f.Close(1))
			}
		}
		noWrite(t, f, 0, "", api.ErrOutOfRange)
		if size > 1 {
			noWrite(t, f, 0, one[1:], api.ErrOutOfRange)
			noWrite(t, f, 0, one+"y", api.ErrOutOfRange)
		}
		noWrite(t, f, 0, one, api.ErrPeerClosed)
		noWrite(t, f, 0, one+one+one, api.ErrPeerClosed)
		if n, s := f.Write(0, nil); n != 0 || s != api.ErrOutOfRange {
			t.Errorf("Write(0, nil): %d, %d", n, s)
		}
	}
}

// P13.2: closed is told ahead of full: a ring that is closed has no elements, but no room either.
func TestWriteToClosed(t *testing.T) {
	for _, had := range []int{0, 1, 2} {
		f := open(t, 2, 1)
		if had > 0 {
			write(t, f, 1, "xy"[:had], had)
		}
		write(t, f, 0, "ab", 2)
		status(t, api.OK, f.Close(1))
		for _, text := range []string{"c", "cd", "cde"} {
			noWrite(t, f, 0, text, api.ErrPeerClosed)
		}
		if f.Len(0) != had {
			t.Errorf("Len(0): %d; right is %d", f.Len(0), had)
		}
	}
}

// P13.2: a number below 1 is told ahead of all else, whether elements wait or not, and whether the other end is open or not.
func TestReadTooFew(t *testing.T) {
	f := open(t, 2, 2)
	below(t, f)
	write(t, f, 1, "aabb", 2)
	below(t, f)
	status(t, api.OK, f.Close(1))
	below(t, f)
	waits(t, f, 2, 0)
	read(t, f, 0, 2, "aabb")
	below(t, f)
	noRead(t, f, 0, 1, api.ErrPeerClosed)
	noRead(t, f, 0, most, api.ErrPeerClosed)
}

// below reads numbers of elements below 1 at end 0.
func below(t *testing.T, f *Fifo) {
	t.Helper()
	for _, n := range []int{0, -1, -2, -1 << 32, least + 1, least} {
		noRead(t, f, 0, n, api.ErrOutOfRange)
	}
}

// text tells the bytes of n elements of a size, the first one numbered so: no two that follow each other are the same.
func text(first, n, size int) string {
	var b strings.Builder
	for i := range n {
		for j := range size {
			b.WriteByte(byte((first+i)*7 + j))
		}
	}
	return b.String()
}

// P13.2: wherever a ring begins, and however many elements wait, as many more come as there is room for, in order.
func TestRoom(t *testing.T) {
	for _, count := range []int{1, 2, 4, 8} {
		for _, size := range []int{1, 3} {
			for begin := range count {
				for had := range count + 1 {
					for n := 1; n <= count+3; n++ {
						tryRoom(t, count, size, begin, had, n)
					}
				}
			}
		}
	}
}

// tryRoom writes n elements to a ring that begins at a place and has had elements.
func tryRoom(t *testing.T, count, size, begin, had, n int) {
	t.Helper()
	for end := range 2 {
		f := open(t, count, size)
		if begin > 0 {
			write(t, f, end, text(100, begin, size), begin)
			read(t, f, 1-end, begin, text(100, begin, size))
		}
		if had > 0 {
			write(t, f, end, text(0, had, size), had)
		}
		all := min(had+n, count)
		if had == count {
			noWrite(t, f, end, text(had, n, size), api.ErrShouldWait)
		} else {
			write(t, f, end, text(had, n, size), all-had)
		}
		if f.Len(1-end) != all || f.Len(end) != 0 {
			t.Errorf("Len: %d, %d; right is %d, 0", f.Len(1-end), f.Len(end), all)
		}
		// The other way there is still room.
		write(t, f, 1-end, text(50, count+1, size), count)
		noWrite(t, f, 1-end, text(60, 1, size), api.ErrShouldWait)
		read(t, f, 1-end, 1, text(0, 1, size))
		if all > 1 {
			read(t, f, 1-end, n+count, text(1, all-1, size))
		}
		noRead(t, f, 1-end, 1, api.ErrShouldWait)
		read(t, f, end, most, text(50, count, size))
	}
}

// P13.2: wherever a ring begins, just so many elements are read as are asked for and wait.
func TestReadSome(t *testing.T) {
	for _, count := range []int{1, 2, 4, 8} {
		for begin := range count {
			for had := 1; had <= count; had++ {
				for n := 1; n <= count+2; n++ {
					f := open(t, count, 2)
					if begin > 0 {
						write(t, f, 0, text(100, begin, 2), begin)
						read(t, f, 1, most, text(100, begin, 2))
					}
					write(t, f, 0, text(0, had, 2), had)
					told := min(n, had)
					read(t, f, 1, n, text(0, told, 2))
					waits(t, f, 0, had-told)
					if told < had {
						read(t, f, 1, most, text(told, had-told, 2))
					}
					noRead(t, f, 1, n, api.ErrShouldWait)
				}
			}
		}
	}
}

// P13.2: a ring that is full has room for just as many elements as are read.
func TestRoomAgain(t *testing.T) {
	f := open(t, 4, 2)
	write(t, f, 0, text(0, 5, 2), 4)
	for i := range 1000 {
		noWrite(t, f, 0, "xx", api.ErrShouldWait)
		shows(t, f, "-", "rw")
		n := i%4 + 1
		read(t, f, 1, n, text(0, n, 2))
		waits(t, f, 0, 4-n)
		if n < 4 {
			shows(t, f, "w", "rw")
			read(t, f, 1, 4, text(n, 4-n, 2))
		}
		shows(t, f, "w", "w")
		write(t, f, 0, text(0, 9, 2), 4)
	}
}

// P13.2: one element in, one element out, round and round.
func TestRound(t *testing.T) {
	f := open(t, 4, 1)
	write(t, f, 0, "012", 3)
	for i := range 1000 {
		write(t, f, 0, strconv.Itoa((i+3)%10)+"x", 1)
		noWrite(t, f, 0, "x", api.ErrShouldWait)
		read(t, f, 1, 1, strconv.Itoa(i%10))
		waits(t, f, 0, 3)
	}
}

// P13.2: all bytes come as they are.
func TestAllBytes(t *testing.T) {
	all := make([]byte, 256)
	for i := range all {
		all[i] = byte(i)
	}
	for _, size := range []int{1, 2, 4, 8, 16, 32, 64} {
		f := open(t, 256/size, size)
		write(t, f, 1, string(all), 256/size)
		read(t, f, 0, 256, string(all))
	}
}

// P13.1, P13.2: all fifos hold just so many elements as they have places, and tell them as they came.
func TestFull(t *testing.T) {
	for _, count := range counts() {
		for size := 1; size <= 64 && count*size <= 4096; size++ {
			f := open(t, count, size)
			write(t, f, 0, text(0, count+1, size), count)
			waits(t, f, 0, count)
			noWrite(t, f, 0, text(0, 1, size), api.ErrShouldWait)
			shows(t, f, "-", "rw")
			read(t, f, 1, 1, text(0, 1, size))
			write(t, f, 0, text(count, count, size), 1)
			noWrite(t, f, 0, text(0, 1, size), api.ErrShouldWait)
			read(t, f, 1, count, text(1, count, size))
			noRead(t, f, 1, 1, api.ErrShouldWait)
			write(t, f, 1, text(7, count, size), count)
			read(t, f, 0, most, text(7, count, size))
		}
	}
}

// P13.2: of many elements at once just those come that there is room for.
func TestLongWrite(t *testing.T) {
	long := text(0, 1<<18, 4)
	f := open(t, 1024, 4)
	write(t, f, 1, long, 1024)
	noWrite(t, f, 1, long, api.ErrShouldWait)
	noWrite(t, f, 1, long[1:], api.ErrOutOfRange)
	read(t, f, 0, 1000, long[:4000])
	write(t, f, 1, long, 1000)
	read(t, f, 0, 2000, long[4000:4096]+long[:4000])
}

// P13.3: what both ends show, however many elements wait there.
func TestShows(t *testing.T) {
	letters := func(readable, writable bool) string {
		return map[[2]bool]string{{true, true}: "rw", {true, false}: "r", {false, true}: "w", {false, false}: "-"}[[2]bool{readable, writable}]
	}
	for _, count := range []int{1, 2, 4} {
		for a := range count + 1 {
			for b := range count + 1 {
				for end := range 2 {
					f := open(t, count, 2)
					fill(t, f, 0, a)
					fill(t, f, 1, b)
					shows(t, f, letters(b > 0, a < count), letters(a > 0, b < count))
					want := [2]signal.Set{signal.PeerClosed, signal.PeerClosed}
					want[end] = 0
					if [2]int{b, a}[1-end] > 0 {
						want[1-end] |= signal.Readable
					}
					status(t, api.OK, f.Close(end))
					if f.Shows(0) != want[0] || f.Shows(1) != want[1] {
						t.Errorf("Shows: %d, %d; right is %v", f.Shows(0), f.Shows(1), want)
					}
				}
			}
		}
	}
}

// fill writes so many elements of two bytes at once, if they are any.
func fill(t *testing.T, f *Fifo, end, n int) {
	t.Helper()
	if n > 0 {
		write(t, f, end, text(0, n, 2), n)
	}
}

// spoil changes bytes, with all their spare room.
func spoil(b []byte) {
	b = b[:cap(b)]
	for i := range b {
		b[i] = '!'
	}
}

// P13.4: what is handed in is not changed, its spare room neither, and not kept.
func TestHandedIn(t *testing.T) {
	for n := 1; n <= 4; n++ {
		mine := []byte("aabbccddee")
		f := open(t, 4, 2)
		if got, s := f.Write(0, mine[2:2+2*n]); got != n || s != api.OK {
			t.Errorf("Write: %d, %d", got, s)
		}
		if n < 4 {
			write(t, f, 0, "xxyyzzzz", 4-n)
		}
		if string(mine) != "aabbccddee" {
			t.Errorf("what was handed in is %q", mine)
		}
		spoil(mine)
		read(t, f, 1, 9, ("bbccddee"[:2*n] + "xxyyzzzz")[:8])
		if string(mine) != "!!!!!!!!!!" {
			t.Errorf("what was handed in is %q", mine)
		}
	}
}

// P13.4: what has no room is not kept, and not changed.
func TestHandedInPart(t *testing.T) {
	mine := []byte("aabbccdd")
	f := open(t, 2, 2)
	if n, s := f.Write(0, mine); n != 2 || s != api.OK {
		t.Errorf("Write: %d, %d", n, s)
	}
	read(t, f, 1, 1, "aa")
	write(t, f, 0, "xxyy", 1)
	if string(mine) != "aabbccdd" {
		t.Errorf("what was handed in is %q", mine)
	}
	spoil(mine)
	read(t, f, 1, 9, "bbxx")
}

// P13.4: what is told is new memory, its spare room too.
func TestTold(t *testing.T) {
	for n := 1; n <= 4; n++ {
		f := open(t, 4, 2)
		write(t, f, 0, "aabbccdd", 4)
		first, s := f.Read(1, n)
		status(t, api.OK, s)
		spoil(first)
		write(t, f, 0, "eeffgghh", n)
		spoil(first)
		second, s := f.Read(1, 4)
		status(t, api.OK, s)
		if string(second) != "aabbccddeeffgghh"[2*n:2*n+8] {
			t.Errorf("what was told is %q", second)
		}
		spoil(first)
		if string(second) != "aabbccddeeffgghh"[2*n:2*n+8] {
			t.Errorf("what was told is %q", second)
		}
	}
}

// P13.4: what was told stays as it is, whatever is written, read and closed behind it.
func TestToldStays(t *testing.T) {
	f := open(t, 2, 2)
	write(t, f, 0, "aabb", 2)
	taken, _ := f.Read(1, 2)
	write(t, f, 0, "ccdd", 2)
	read(t, f, 1, 1, "cc")
	write(t, f, 0, "ee", 1)
	status(t, api.OK, f.Close(1))
	if string(taken) != "aabb" {
		t.Errorf("what was told is %q", taken)
	}
}

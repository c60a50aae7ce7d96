package pages

import (
	"bytes"
	"slices"
	"testing"

	"jacinth/api"
)

const (
	most  = 1<<63 - 1
	least = -1 << 63
)

// alloc takes a frame, which must be want.
func alloc(t *testing.T, p *Pool, want int) {
	t.Helper()
	if frame, s := p.Alloc(); frame != want || s != api.OK {
		t.Fatalf("Alloc: %d, %d; right is %d, 0", frame, s, want)
	}
}

// full asks for a frame where none is free.
func full(t *testing.T, p *Pool) {
	t.Helper()
	if frame, s := p.Alloc(); frame != 0 || s != api.ErrNoMemory {
		t.Fatalf("Alloc: %d, %d; right is 0, %d", frame, s, api.ErrNoMemory)
	}
}

func share(t *testing.T, p *Pool, frame int) {
	t.Helper()
	if s := p.Share(frame); s != api.OK {
		t.Fatalf("Share(%d): %d", frame, s)
	}
}

func release(t *testing.T, p *Pool, frame int) {
	t.Helper()
	if s := p.Release(frame); s != api.OK {
		t.Fatalf("Release(%d): %d", frame, s)
	}
}

// own asks for a frame's bytes for one user, which must be in want.
func own(t *testing.T, p *Pool, frame, want int) {
	t.Helper()
	if got, s := p.Own(frame); got != want || s != api.OK {
		t.Fatalf("Own(%d): %d, %d; right is %d, 0", frame, got, s, want)
	}
}

func write(t *testing.T, p *Pool, frame, at int, b []byte) {
	t.Helper()
	if s := p.Write(frame, at, b); s != api.OK {
		t.Fatalf("Write(%d, %d, %d bytes): %d", frame, at, len(b), s)
	}
}

// reads holds the bytes of a frame from at on against want.
func reads(t *testing.T, p *Pool, frame, at int, want []byte) {
	t.Helper()
	if got, s := p.Read(frame, at, len(want)); !bytes.Equal(got, want) || s != api.OK {
		t.Fatalf("Read(%d, %d, %d): %v, %d; right is %v, 0", frame, at, len(want), got, s, want)
	}
}

// missing asks everything of a number that is no frame in use, and that all of it is refused.
func missing(t *testing.T, p *Pool, frame int) {
	t.Helper()
	used, room := p.Used(), p.Room()
	if n := p.Users(frame); n != 0 {
		t.Errorf("Users(%d): %d", frame, n)
	}
	if s := p.Share(frame); s != api.ErrNotFound {
		t.Errorf("Share(%d): %d", frame, s)
	}
	if s := p.Release(frame); s != api.ErrNotFound {
		t.Errorf("Release(%d): %d", frame, s)
	}
	if got, s := p.Own(frame); got != 0 || s != api.ErrNotFound {
		t.Errorf("Own(%d): %d, %d", frame, got, s)
	}
	// That there is no such frame is told ahead of the bytes that no frame has.
	for _, at := range []int{0, -1, api.PageSize + 1} {
		if got, s := p.Read(frame, at, 1); len(got) != 0 || s != api.ErrNotFound {
			t.Errorf("Read(%d, %d, 1): %v, %d", frame, at, got, s)
		}
		if s := p.Write(frame, at, []byte{1}); s != api.ErrNotFound {
			t.Errorf("Write(%d, %d): %d", frame, at, s)
		}
	}
	if p.Used() != used || p.Room() != room {
		t.Errorf("%d, which is no frame: %d in use, %d free, not %d, %d", frame, p.Used(), p.Room(), used, room)
	}
}

// shape holds how many users the frames have against those that are right.
func shape(t *testing.T, p *Pool, users ...int) {
	t.Helper()
	used := 0
	for frame, want := range users {
		if got := p.Users(frame); got != want {
			t.Errorf("Users(%d): %d, not %d", frame, got, want)
		}
		if want > 0 {
			used++
		}
	}
	if p.Used() != used || p.Room() != len(users)-used {
		t.Errorf("%d in use, %d free; right is %d, %d", p.Used(), p.Room(), used, len(users)-used)
	}
}

// whole are the bytes of a frame of which each can be told from the others.
func whole(from byte) []byte {
	b := make([]byte, api.PageSize)
	for i := range b {
		b[i] = from + byte(i)
	}
	return b
}

// P7.1: a pool has as many frames as are asked for, all of them free; there is none of other capacities.
func TestNew(t *testing.T) {
	for _, capacity := range []int{0, 1, 2, 64, 65535, 65536} {
		p := New(capacity)
		if p == nil {
			t.Fatalf("New(%d): nil", capacity)
		}
		if p.Used() != 0 || p.Room() != capacity {
			t.Errorf("New(%d): %d in use, %d free", capacity, p.Used(), p.Room())
		}
		for _, frame := range []int{0, capacity - 1, capacity} {
			missing(t, p, frame)
		}
	}
	for _, capacity := range []int{-1, -64, -65536, 65537, 1 << 17, 1 << 32, 1<<32 + 1, most, least} {
		if New(capacity) != nil {
			t.Errorf("New(%d): a pool", capacity)
		}
	}
}

// P7.1: a pool without frames.
func TestNoFrames(t *testing.T) {
	p := New(0)
	for range 3 {
		full(t, p)
		shape(t, p)
	}
	missing(t, p, 0)
	missing(t, p, -1)
}

// The chapter's example.
func TestExample(t *testing.T) {
	p := New(2)
	alloc(t, p, 0)
	share(t, p, 0)
	if s := p.Write(0, 0, []byte("x")); s != api.ErrBadState {
		t.Errorf("Write: %d", s)
	}
	own(t, p, 0, 1)
	write(t, p, 1, 0, []byte("x"))
	reads(t, p, 0, 0, []byte{0})
	reads(t, p, 1, 0, []byte("x"))
	shape(t, p, 1, 1)
}

// P7.1: the lowest free frame is told, whichever was freed last; its bytes are 0, and it has one user.
func TestAllocTakesTheLowestFrame(t *testing.T) {
	p := New(6)
	for frame := range 5 {
		alloc(t, p, frame)
		write(t, p, frame, 0, whole(byte(frame+1)))
	}
	shape(t, p, 1, 1, 1, 1, 1, 0)
	for _, frame := range []int{3, 0, 2} {
		release(t, p, frame)
		missing(t, p, frame)
	}
	shape(t, p, 0, 1, 0, 0, 1, 0)
	for _, frame := range []int{0, 2, 3, 5} {
		alloc(t, p, frame)
		reads(t, p, frame, 0, make([]byte, api.PageSize))
	}
	full(t, p)
	shape(t, p, 1, 1, 1, 1, 1, 1)
	reads(t, p, 1, 0, whole(2))
	reads(t, p, 4, 0, whole(5))
}

// P7.1: a frame that was freed is told ahead of higher ones, those that were freed earlier and those never used.
func TestAllocBetweenReleases(t *testing.T) {
	p := New(5)
	for frame := range 4 {
		alloc(t, p, frame)
	}
	release(t, p, 1)
	release(t, p, 3)
	alloc(t, p, 1)
	release(t, p, 0)
	alloc(t, p, 0)
	alloc(t, p, 3)
	alloc(t, p, 4)
	full(t, p)
}

// P7.1: a frame is free when all of its users have released it, and not before.
func TestShareAndRelease(t *testing.T) {
	p := New(2)
	alloc(t, p, 0)
	write(t, p, 0, 0, whole(9))
	for n := 2; n <= 40; n++ {
		share(t, p, 0)
		shape(t, p, n, 0)
	}
	for n := 39; n >= 1; n-- {
		release(t, p, 0)
		shape(t, p, n, 0)
		reads(t, p, 0, 0, whole(9))
	}
	release(t, p, 0)
	shape(t, p, 0, 0)
	// A second Release must not make it free twice.
	missing(t, p, 0)
	alloc(t, p, 0)
	alloc(t, p, 1)
	full(t, p)
}

// P7.1: numbers that are no frames in use, whatever the pool holds.
func TestWrongFrames(t *testing.T) {
	p := New(4)
	alloc(t, p, 0)
	alloc(t, p, 1)
	alloc(t, p, 2)
	write(t, p, 0, 0, whole(1))
	release(t, p, 1)
	for _, frame := range []int{1, 3, 4, 5, 64, 65535, 65536, 1 << 32, 1<<32 + 2, 1 << 62, most - 1, most, -1, -2, -4, -65536, -1 << 32, least, least + 2} {
		missing(t, p, frame)
	}
	shape(t, p, 1, 0, 1, 0)
	reads(t, p, 0, 0, whole(1))
}

// P7.1: there are just as many frames as the limit says.
func TestMostFrames(t *testing.T) {
	p := New(api.MaxSlots)
	for frame := range api.MaxSlots {
		alloc(t, p, frame)
		write(t, p, frame, frame%api.PageSize, []byte{byte(frame), byte(frame >> 8)}[:min(2, api.PageSize-frame%api.PageSize)])
	}
	full(t, p)
	if p.Used() != api.MaxSlots || p.Room() != 0 {
		t.Errorf("%d in use, %d free", p.Used(), p.Room())
	}
	for frame := api.MaxSlots - 1; frame >= 0; frame -= 3 {
		reads(t, p, frame, frame%api.PageSize, []byte{byte(frame)})
		release(t, p, frame)
	}
	for frame := 0; frame < api.MaxSlots; frame += 3 {
		alloc(t, p, frame)
		reads(t, p, frame, 0, make([]byte, api.PageSize))
	}
	full(t, p)
}

// P7.2: what one user has is its own already, whether others are free or not.
func TestOwnOfOneUser(t *testing.T) {
	p := New(2)
	alloc(t, p, 0)
	write(t, p, 0, 0, whole(3))
	own(t, p, 0, 0)
	shape(t, p, 1, 0)
	alloc(t, p, 1)
	own(t, p, 0, 0)
	own(t, p, 1, 1)
	shape(t, p, 1, 1)
	reads(t, p, 0, 0, whole(3))
	share(t, p, 0)
	release(t, p, 0)
	own(t, p, 0, 0)
	shape(t, p, 1, 1)
}

// P7.2: what is shared is copied whole to the lowest free frame, and has one user fewer.
func TestOwnOfMoreUsers(t *testing.T) {
	p := New(4)
	for frame := range 4 {
		alloc(t, p, frame)
		write(t, p, frame, 0, whole(byte(50*frame+1)))
	}
	share(t, p, 3)
	share(t, p, 3)
	release(t, p, 2)
	release(t, p, 0)
	shape(t, p, 0, 1, 0, 3)
	own(t, p, 3, 0)
	shape(t, p, 1, 1, 0, 2)
	own(t, p, 3, 2)
	shape(t, p, 1, 1, 1, 1)
	own(t, p, 3, 3)
	shape(t, p, 1, 1, 1, 1)
	for _, frame := range []int{0, 2, 3} {
		reads(t, p, frame, 0, whole(151))
	}
	reads(t, p, 1, 0, whole(51))
	write(t, p, 0, 63, []byte{7})
	write(t, p, 3, 0, []byte{8})
	reads(t, p, 0, 0, append(whole(151)[:63], 7))
	reads(t, p, 3, 0, append([]byte{8}, whole(152)[:63]...))
	reads(t, p, 2, 0, whole(151))
}

// P7.2: with no frame free, what is shared stays as it was.
func TestOwnWithoutRoom(t *testing.T) {
	p := New(2)
	alloc(t, p, 0)
	alloc(t, p, 1)
	write(t, p, 1, 0, whole(20))
	share(t, p, 1)
	for range 3 {
		if got, s := p.Own(1); got != 0 || s != api.ErrNoMemory {
			t.Errorf("Own: %d, %d", got, s)
		}
		shape(t, p, 1, 2)
		reads(t, p, 1, 0, whole(20))
	}
	if s := p.Write(1, 0, []byte{1}); s != api.ErrBadState {
		t.Errorf("Write: %d", s)
	}
	release(t, p, 0)
	own(t, p, 1, 0)
	shape(t, p, 1, 1)
	reads(t, p, 0, 0, whole(20))
}

// P7.2: a frame never used before takes the copy as well as one that was.
func TestOwnLaysFrames(t *testing.T) {
	p := New(100)
	alloc(t, p, 0)
	write(t, p, 0, 0, whole(100))
	for frame := 1; frame < 100; frame++ {
		share(t, p, 0)
		own(t, p, 0, frame)
		write(t, p, frame, 10, []byte{byte(frame)})
	}
	reads(t, p, 0, 0, whole(100))
	for frame := 1; frame < 100; frame++ {
		want := whole(100)
		want[10] = byte(frame)
		reads(t, p, frame, 0, want)
	}
	full(t, p)
}

// P7.3: all places and lengths round about a frame's bytes, which are told, or are out of range.
func TestReadAtAllPlaces(t *testing.T) {
	p := New(3)
	for frame := range 3 {
		alloc(t, p, frame)
		write(t, p, frame, 0, whole(byte(70*frame)))
	}
	for at := -3; at <= api.PageSize+3; at++ {
		for n := -3; n <= api.PageSize+3; n++ {
			got, s := p.Read(1, at, n)
			if at < 0 || n < 0 || at+n > 64 {
				if len(got) != 0 || s != api.ErrOutOfRange {
					t.Errorf("Read(1, %d, %d): %v, %d", at, n, got, s)
				}
				continue
			}
			if s != api.OK || !bytes.Equal(got, whole(70)[at:at+n]) {
				t.Errorf("Read(1, %d, %d): %v, %d", at, n, got, s)
			}
		}
	}
}

// P7.3: all places and lengths of what is written; nothing else is changed.
func TestWriteAtAllPlaces(t *testing.T) {
	for at := -3; at <= api.PageSize+3; at++ {
		for n := 0; n <= api.PageSize+3; n++ {
			p := New(3)
			for frame := range 3 {
				alloc(t, p, frame)
				write(t, p, frame, 0, whole(byte(70*frame)))
			}
			b := bytes.Repeat([]byte{255}, n)
			want, right := whole(70), api.OK
			if at < 0 || at+n > 64 {
				right = api.ErrOutOfRange
			} else {
				copy(want[at:], b)
			}
			if s := p.Write(1, at, b); s != right {
				t.Errorf("Write(1, %d, %d bytes): %d, not %d", at, n, s, right)
			}
			reads(t, p, 0, 0, whole(0))
			reads(t, p, 1, 0, want)
			reads(t, p, 2, 0, whole(140))
		}
	}
}

// P7.3: places and lengths that together are no number.
func TestFarPlaces(t *testing.T) {
	p := New(1)
	alloc(t, p, 0)
	far := []int{least, least + 1, least + 64, -1 << 32, -65, -64, -1, 65, 1 << 32, 1<<32 + 1, 1 << 62, most - 64, most - 63, most - 1, most}
	for _, at := range far {
		for _, n := range append(far, 0, 1, 63, 64) {
			if got, s := p.Read(0, at, n); len(got) != 0 || s != api.ErrOutOfRange {
				t.Errorf("Read(0, %d, %d): %v, %d", at, n, got, s)
			}
			if got, s := p.Read(0, n, at); len(got) != 0 || s != api.ErrOutOfRange {
				t.Errorf("Read(0, %d, %d): %v, %d", n, at, got, s)
			}
		}
		for _, n := range []int{0, 1, 64, 65, 4096} {
			if s := p.Write(0, at, make([]byte, n)); s != api.ErrOutOfRange {
				t.Errorf("Write(0, %d, %d bytes): %d", at, n, s)
			}
		}
	}
	reads(t, p, 0, 0, make([]byte, 64))
}

// P7.3: what is shared may be read and not written, of no bytes too; that it is out of range is told first.
func TestWriteOfWhatIsShared(t *testing.T) {
	p := New(2)
	alloc(t, p, 0)
	write(t, p, 0, 0, whole(1))
	share(t, p, 0)
	for _, b := range [][]byte{nil, {}, {5}, make([]byte, 64)} {
		if s := p.Write(0, 0, b); s != api.ErrBadState {
			t.Errorf("Write of %d bytes: %d", len(b), s)
		}
	}
	if s := p.Write(0, 64, nil); s != api.ErrBadState {
		t.Errorf("Write at the end: %d", s)
	}
	if s := p.Write(0, 64, []byte{1}); s != api.ErrOutOfRange {
		t.Errorf("Write behind the end: %d", s)
	}
	if s := p.Write(0, -1, nil); s != api.ErrOutOfRange {
		t.Errorf("Write ahead of the beginning: %d", s)
	}
	reads(t, p, 0, 0, whole(1))
	share(t, p, 0)
	release(t, p, 0)
	if s := p.Write(0, 0, []byte{5}); s != api.ErrBadState {
		t.Errorf("Write: %d", s)
	}
	release(t, p, 0)
	write(t, p, 0, 0, []byte{5})
	reads(t, p, 0, 0, append([]byte{5}, whole(2)[:63]...))
}

// P7.3: no bytes are nil or empty, and stand anywhere up to the end.
func TestNoBytes(t *testing.T) {
	p := New(1)
	alloc(t, p, 0)
	write(t, p, 0, 0, whole(1))
	for _, at := range []int{0, 1, 63, 64} {
		write(t, p, 0, at, nil)
		write(t, p, 0, at, []byte{})
		reads(t, p, 0, at, nil)
	}
	reads(t, p, 0, 0, whole(1))
}

// P7.4: what is written is not changed, nor kept, its spare room neither.
func TestWrittenIsNotKept(t *testing.T) {
	p := New(1)
	alloc(t, p, 0)
	room := whole(30)
	write(t, p, 0, 4, room[:10])
	if !bytes.Equal(room, whole(30)) {
		t.Errorf("Write changed its bytes: %v", room)
	}
	clear(room)
	want := make([]byte, 64)
	copy(want[4:], whole(30)[:10])
	reads(t, p, 0, 0, want)
	write(t, p, 0, 0, whole(90))
	if !bytes.Equal(room, make([]byte, 64)) {
		t.Errorf("Write changed earlier bytes: %v", room)
	}
}

// P7.4: what is told is new memory, its spare room too.
func TestToldIsNewMemory(t *testing.T) {
	p := New(2)
	alloc(t, p, 0)
	write(t, p, 0, 0, whole(1))
	one, _ := p.Read(0, 8, 16)
	two, _ := p.Read(0, 8, 16)
	none, _ := p.Read(0, 8, 0)
	for _, told := range [][]byte{one, none} {
		told = told[:cap(told)]
		for i := range told {
			told[i] = 255
		}
	}
	if !bytes.Equal(two, whole(9)[:16]) {
		t.Errorf("another answer: %v", two)
	}
	reads(t, p, 0, 0, whole(1))
	write(t, p, 0, 0, make([]byte, 64))
	release(t, p, 0)
	if !bytes.Equal(two, whole(9)[:16]) {
		t.Errorf("an earlier answer: %v", two)
	}
}

// Two pools know nothing of each other.
func TestPoolsAreApart(t *testing.T) {
	a, b := New(1), New(1)
	alloc(t, a, 0)
	write(t, a, 0, 0, whole(1))
	shape(t, b, 0)
	alloc(t, b, 0)
	reads(t, b, 0, 0, make([]byte, 64))
	share(t, b, 0)
	shape(t, a, 1)
	release(t, a, 0)
	shape(t, b, 2)
}

// model is a pool as the chapter's words have it: slow and plain.
type model struct {
	users []int
	bytes [][]byte
}

func newModel(capacity int) *model {
	return &model{make([]int, capacity), make([][]byte, capacity)}
}

// has tells whether a frame is in use.
func (m *model) has(frame int) bool {
	return frame >= 0 && frame < len(m.users) && m.users[frame] > 0
}

func (m *model) alloc() (int, api.Status) {
	frame := slices.Index(m.users, 0)
	if frame < 0 {
		return 0, api.ErrNoMemory
	}
	m.users[frame], m.bytes[frame] = 1, make([]byte, 64)
	return frame, api.OK
}

// count lets a frame have so many users more.
func (m *model) count(frame, more int) api.Status {
	if !m.has(frame) {
		return api.ErrNotFound
	}
	m.users[frame] += more
	return api.OK
}

func (m *model) own(frame int) (int, api.Status) {
	if !m.has(frame) {
		return 0, api.ErrNotFound
	}
	if m.users[frame] == 1 {
		return frame, api.OK
	}
	other, s := m.alloc()
	if s == api.OK {
		copy(m.bytes[other], m.bytes[frame])
		m.users[frame]--
	}
	return other, s
}

func (m *model) read(frame, at, n int) ([]byte, api.Status) {
	if !m.has(frame) {
		return nil, api.ErrNotFound
	}
	if at < 0 || n < 0 || at+n > 64 {
		return nil, api.ErrOutOfRange
	}
	return m.bytes[frame][at : at+n], api.OK
}

func (m *model) write(frame, at int, b []byte) api.Status {
	place, s := m.read(frame, at, len(b))
	if s != api.OK {
		return s
	}
	if m.users[frame] > 1 {
		return api.ErrBadState
	}
	copy(place, b)
	return api.OK
}

// P7.1 to P7.3: thousands of calls come to what they come to frame by frame.
func TestAgainstModel(t *testing.T) {
	for _, capacity := range []int{0, 1, 2, 3, 7, 20} {
		p, m := New(capacity), newModel(capacity)
		seed := uint32(capacity + 1)
		draw := func(n int) int {
			seed = seed*1664525 + 1013904223
			return int(seed>>8) % n
		}
		for step := range 20000 {
			frame, at, n := draw(capacity+2)-1, draw(70)-2, draw(70)-2
			got, want, s, ws := 0, 0, api.OK, api.OK
			var told, right []byte
			switch draw(7) {
			case 0:
				got, s = p.Alloc()
				want, ws = m.alloc()
			case 1:
				s, ws = p.Share(frame), m.count(frame, 1)
			case 2, 3:
				s, ws = p.Release(frame), m.count(frame, -1)
			case 4:
				got, s = p.Own(frame)
				want, ws = m.own(frame)
			case 5:
				told, s = p.Read(frame, at, n)
				right, ws = m.read(frame, at, n)
			case 6:
				b := whole(byte(step))[:min(64, max(n, 0))]
				s, ws = p.Write(frame, at, b), m.write(frame, at, b)
			}
			if got != want || s != ws || !bytes.Equal(told, right) {
				t.Fatalf("capacity %d, step %d, frame %d: %d, %d, %v; right is %d, %d, %v", capacity, step, frame, got, s, told, want, ws, right)
			}
			shape(t, p, m.users...)
			if m.has(frame) {
				reads(t, p, frame, 0, m.bytes[frame])
			}
			if t.Failed() {
				t.Fatalf("capacity %d, step %d", capacity, step)
			}
		}
	}
}

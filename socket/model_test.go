package socket

import (
	"slices"
	"testing"

	"jacinth/api"
	"jacinth/signal"
)

// sent is bytes that are read as one, with the end where they are to be read: a piece, or one byte of a stream.
type sent struct {
	end  int
	data string
}

// model is a socket as the chapter's words have it, slow and plain: one list of all that waits.
type model struct {
	datagram    bool
	room        int
	closed      [2]bool
	write, read [2]bool
	waits       []sent
}

func (m *model) end(end int) api.Status {
	switch {
	case end < 0 || end > 1:
		return api.ErrInvalidArgs
	case m.closed[end]:
		return api.ErrPeerClosed
	}
	return api.OK
}

// all are the bytes that wait at an end, and how many there are of what is read as one.
func (m *model) all(end int) (data string, count int) {
	for _, s := range m.waits {
		if s.end == end {
			data += s.data
			count++
		}
	}
	return data, count
}

func (m *model) Write(end int, b []byte) (int, api.Status) {
	if s := m.end(end); s != api.OK {
		return 0, s
	}
	to := 1 - end
	data, _ := m.all(to)
	room := m.room - len(data)
	switch {
	case m.closed[to]:
		return 0, api.ErrPeerClosed
	case m.write[end] || m.read[to]:
		return 0, api.ErrBadState
	case m.datagram && len(b) == 0:
		return 0, api.ErrInvalidArgs
	case m.datagram && len(b) > m.room:
		return 0, api.ErrOutOfRange
	case m.datagram && len(b) > room:
		return 0, api.ErrShouldWait
	case m.datagram:
		m.waits = append(m.waits, sent{to, string(b)})
		return len(b), api.OK
	case len(b) == 0:
		return 0, api.OK
	case room == 0:
		return 0, api.ErrShouldWait
	}
	count := 0
	for count < len(b) && count < room {
		m.waits = append(m.waits, sent{to, string(b[count : count+1])})
		count++
	}
	return count, api.OK
}

func (m *model) Read(end, n int, peek bool) (string, api.Status) {
	if s := m.end(end); s != api.OK {
		return "", s
	}
	if n < 0 {
		return "", api.ErrInvalidArgs
	}
	if _, count := m.all(end); count == 0 {
		switch {
		case m.closed[1-end]:
			return "", api.ErrPeerClosed
		case m.read[end] || m.write[1-end]:
			return "", api.ErrBadState
		}
		return "", api.ErrShouldWait
	}
	told := ""
	var left []sent
	first := true
	for _, s := range m.waits {
		switch {
		case s.end != end:
			left = append(left, s)
		case m.datagram && first:
			told = s.data[:min(n, len(s.data))]
		case !m.datagram && len(told) < n:
			told += s.data
		default:
			left = append(left, s)
		}
		first = first && s.end != end
	}
	if !peek {
		m.waits = left
	}
	return told, api.OK
}

func (m *model) Shut(end int, write, read bool) api.Status {
	if s := m.end(end); s != api.OK {
		return s
	}
	if write {
		m.write[end] = true
	}
	if read {
		m.read[end] = true
	}
	return api.OK
}

func (m *model) Close(end int) api.Status {
	if s := m.end(end); s != api.OK {
		return s
	}
	m.closed[end] = true
	m.waits = slices.DeleteFunc(m.waits, func(s sent) bool { return s.end == end })
	return api.OK
}

// shows asks a model that is as this one is whether one byte could be written.
func (m *model) shows(end int) (told signal.Set) {
	if m.end(end) != api.OK {
		return 0
	}
	if data, _ := m.all(end); data != "" {
		told += 1
	}
	like := *m
	like.waits = slices.Clone(m.waits)
	if _, s := like.Write(end, []byte("x")); s == api.OK {
		told += 2
	}
	if m.closed[1-end] {
		told += 4
	}
	return told
}

// pair is a socket and a model that are asked the same.
type pair struct {
	s *Socket
	m *model
}

func newPair(datagram bool, room int) *pair {
	return &pair{s: New(datagram, room), m: &model{datagram: datagram, room: room}}
}

func (p *pair) write(t *testing.T, end int, b []byte) {
	t.Helper()
	got, s := p.s.Write(end, b)
	if want, right := p.m.Write(end, b); got != want || s != right {
		t.Fatalf("Write(%d, %q): %d, %d; right is %d, %d", end, b, got, s, want, right)
	}
}

func (p *pair) read(t *testing.T, end, n int, peek bool) {
	t.Helper()
	got, s := p.s.Read(end, n, peek)
	if want, right := p.m.Read(end, n, peek); string(got) != want || s != right {
		t.Fatalf("Read(%d, %d, %t): %q, %d; right is %q, %d", end, n, peek, got, s, want, right)
	}
	spoil(got)
}

func (p *pair) shut(t *testing.T, end int, write, read bool) {
	t.Helper()
	if got, want := p.s.Shut(end, write, read), p.m.Shut(end, write, read); got != want {
		t.Fatalf("Shut(%d, %t, %t): %d; right is %d", end, write, read, got, want)
	}
}

func (p *pair) close(t *testing.T, end int) {
	t.Helper()
	if got, want := p.s.Close(end), p.m.Close(end); got != want {
		t.Fatalf("Close(%d): %d; right is %d", end, got, want)
	}
}

// same holds all that is told of a socket against what is right.
func (p *pair) same(t *testing.T) {
	t.Helper()
	for end := -1; end <= 2; end++ {
		data, pieces := p.m.all(end)
		if !p.m.datagram {
			pieces = 0
		}
		if n, c := p.s.Len(end), p.s.Pieces(end); n != len(data) || c != pieces {
			t.Fatalf("end %d: %d bytes, %d pieces; right is %d, %d", end, n, c, len(data), pieces)
		}
		if got := p.s.Open(end); got != (p.m.end(end) == api.OK) {
			t.Fatalf("Open(%d): %t", end, got)
		}
		if got, want := p.s.Shows(end), p.m.shows(end); got != want {
			t.Fatalf("Shows(%d): %d; right is %d", end, got, want)
		}
		p.read(t, end, 99, true)
	}
}

// small are the steps of which all short runs are gone through.
func small() []func(t *testing.T, p *pair) {
	return []func(t *testing.T, p *pair){
		func(t *testing.T, p *pair) { p.write(t, 0, []byte("a")) },
		func(t *testing.T, p *pair) { p.write(t, 0, []byte("bc")) },
		func(t *testing.T, p *pair) { p.write(t, 1, []byte("de")) },
		func(t *testing.T, p *pair) { p.write(t, 1, nil) },
		func(t *testing.T, p *pair) { p.read(t, 0, 1, false) },
		func(t *testing.T, p *pair) { p.read(t, 1, 1, false) },
		func(t *testing.T, p *pair) { p.shut(t, 0, true, false) },
		func(t *testing.T, p *pair) { p.shut(t, 0, false, true) },
		func(t *testing.T, p *pair) { p.close(t, 0) },
		func(t *testing.T, p *pair) { p.close(t, 1) },
	}
}

// P12.1 to P12.4: all runs of five of the small steps, at the least rooms; at the end both ends are closed.
func TestAllShortRuns(t *testing.T) {
	steps := small()
	runs := 1
	for range 5 {
		runs *= len(steps)
	}
	for _, datagram := range kinds() {
		for room := 1; room <= 3; room++ {
			for run := range runs {
				p := newPair(datagram, room)
				for left := run; left > 0; left /= len(steps) {
					steps[left%len(steps)](t, p)
				}
				p.same(t)
				p.close(t, run%2)
				p.close(t, 1-run%2)
			}
		}
	}
}

// draws are numbers that hang on a seed alone.
type draws struct {
	seed uint64
}

// draw tells a number from 0 to below n.
func (d *draws) draw(n int) int {
	d.seed = d.seed*6364136223846793005 + 1442695040888963407
	return int(d.seed>>33) % n
}

// end tells an end, or a number of none now and then.
func (d *draws) end() int {
	if d.draw(50) == 0 {
		return d.draw(7) - 3
	}
	return d.draw(2)
}

// bytes tells bytes, mostly no more than there is room for.
func (d *draws) bytes(room int) []byte {
	b := make([]byte, d.draw(room/2+2))
	if d.draw(8) == 0 {
		b = make([]byte, room-1+d.draw(3))
	}
	for i := range b {
		b[i] = byte(d.draw(256))
	}
	return b
}

// step asks both one thing, and spoils what it was asked with.
func (d *draws) step(t *testing.T, p *pair) {
	t.Helper()
	end := d.end()
	switch d.draw(9) {
	case 0, 1, 2, 3:
		b := d.bytes(p.m.room)
		p.write(t, end, b)
		spoil(b)
	case 4, 5, 6:
		p.read(t, end, d.draw(p.m.room+3)-1, d.draw(3) == 0)
	case 7:
		if d.draw(20) == 0 {
			p.shut(t, end, d.draw(2) == 0, d.draw(2) == 0)
		}
	case 8:
		if d.draw(30) == 0 {
			p.close(t, end)
		}
	}
}

// P12.1 to P12.5: thousands of calls come to what they come to in one plain list.
func TestAgainstModel(t *testing.T) {
	for _, datagram := range kinds() {
		for i, room := range []int{1, 2, 3, 4, 5, 8, 17, 50} {
			for seed := range 10 {
				d := draws{seed: uint64(31*i + seed + 1)}
				p := newPair(datagram, room)
				for range 1000 {
					d.step(t, p)
					p.same(t)
					if p.m.closed[0] && p.m.closed[1] && d.draw(3) == 0 {
						p = newPair(datagram, room)
					}
				}
			}
		}
	}
}

package fifo

import (
	"slices"
	"testing"

	"jacinth/api"
	"jacinth/signal"
)

// sent is an element, with the end where it is to be read.
type sent struct {
	end  int
	data string
}

// model is a fifo as the chapter's words have it, slow and plain: one list of all that waits.
type model struct {
	count, size int
	closed      [2]bool
	waits       []sent
}

func (m *model) end(end int) api.Status {
	switch {
	case end < 0 || end > 1:
		return api.ErrInvalidArgs
	case m.closed[end]:
		return api.ErrPeerClosed
	}
	return api.OK
}

// len tells how many elements wait at an end.
func (m *model) len(end int) (count int) {
	for _, s := range m.waits {
		if s.end == end {
			count++
		}
	}
	return count
}

func (m *model) Write(end int, b []byte) (int, api.Status) {
	if s := m.end(end); s != api.OK {
		return 0, s
	}
	to := 1 - end
	switch {
	case len(b) == 0 || len(b)%m.size > 0:
		return 0, api.ErrOutOfRange
	case m.closed[to]:
		return 0, api.ErrPeerClosed
	case m.len(to) == m.count:
		return 0, api.ErrShouldWait
	}
	count := 0
	for len(b) > 0 && m.len(to) < m.count {
		m.waits = append(m.waits, sent{to, string(b[:m.size])})
		b = b[m.size:]
		count++
	}
	return count, api.OK
}

func (m *model) Read(end, n int) (string, api.Status) {
	if s := m.end(end); s != api.OK {
		return "", s
	}
	switch {
	case n < 1:
		return "", api.ErrOutOfRange
	case m.len(end) == 0 && m.closed[1-end]:
		return "", api.ErrPeerClosed
	case m.len(end) == 0:
		return "", api.ErrShouldWait
	}
	told := ""
	var left []sent
	for _, s := range m.waits {
		if s.end == end && n > 0 {
			told += s.data
			n--
		} else {
			left = append(left, s)
		}
	}
	m.waits = left
	return told, api.OK
}

func (m *model) Close(end int) api.Status {
	if s := m.end(end); s != api.OK {
		return s
	}
	m.closed[end] = true
	m.waits = slices.DeleteFunc(m.waits, func(s sent) bool { return s.end == end })
	return api.OK
}

func (m *model) shows(end int) (told signal.Set) {
	if m.end(end) != api.OK {
		return 0
	}
	if m.len(end) > 0 {
		told += 1
	}
	if !m.closed[1-end] && m.len(1-end) < m.count {
		told += 2
	}
	if m.closed[1-end] {
		told += 4
	}
	return told
}

// pair is a fifo and a model that are asked the same.
type pair struct {
	f *Fifo
	m *model
}

func newPair(t *testing.T, count, size int) *pair {
	t.Helper()
	return &pair{f: open(t, count, size), m: &model{count: count, size: size}}
}

func (p *pair) write(t *testing.T, end int, b []byte) {
	t.Helper()
	got, s := p.f.Write(end, b)
	if want, right := p.m.Write(end, b); got != want || s != right {
		t.Fatalf("Write(%d, %q): %d, %d; right is %d, %d", end, b, got, s, want, right)
	}
}

func (p *pair) read(t *testing.T, end, n int) {
	t.Helper()
	got, s := p.f.Read(end, n)
	if want, right := p.m.Read(end, n); string(got) != want || s != right {
		t.Fatalf("Read(%d, %d): %q, %d; right is %q, %d", end, n, got, s, want, right)
	}
	spoil(got)
}

func (p *pair) close(t *testing.T, end int) {
	t.Helper()
	if got, want := p.f.Close(end), p.m.Close(end); got != want {
		t.Fatalf("Close(%d): %d; right is %d", end, got, want)
	}
}

// same holds all that is told of a fifo, and changes nothing, against what is right.
func (p *pair) same(t *testing.T) {
	t.Helper()
	for end := -1; end <= 2; end++ {
		if got, want := p.f.Len(end), p.m.len(end); got != want {
			t.Fatalf("Len(%d): %d; right is %d", end, got, want)
		}
		if got := p.f.Open(end); got != (p.m.end(end) == api.OK) {
			t.Fatalf("Open(%d): %t", end, got)
		}
		if got, want := p.f.Shows(end), p.m.shows(end); got != want {
			t.Fatalf("Shows(%d): %d; right is %d", end, got, want)
		}
	}
	if p.f.Size() != p.m.size {
		t.Fatalf("Size: %d; right is %d", p.f.Size(), p.m.size)
	}
}

// small are the steps, for elements of two bytes, of which all short runs are gone through.
func small() []func(t *testing.T, p *pair) {
	return []func(t *testing.T, p *pair){
		func(t *testing.T, p *pair) { p.write(t, 0, []byte("aa")) },
		func(t *testing.T, p *pair) { p.write(t, 0, []byte("bbccdd")) },
		func(t *testing.T, p *pair) { p.write(t, 0, []byte("eee")) },
		func(t *testing.T, p *pair) { p.write(t, 1, []byte("ffgg")) },
		func(t *testing.T, p *pair) { p.read(t, 0, 1) },
		func(t *testing.T, p *pair) { p.read(t, 1, 1) },
		func(t *testing.T, p *pair) { p.read(t, 1, 3) },
		func(t *testing.T, p *pair) { p.read(t, 1, 0) },
		func(t *testing.T, p *pair) { p.close(t, 0) },
		func(t *testing.T, p *pair) { p.close(t, 1) },
	}
}

// P13.1 to P13.3: all runs of five of the small steps, at the least counts; at the end all is read and both ends are closed.
func TestAllShortRuns(t *testing.T) {
	steps := small()
	runs := 1
	for range 5 {
		runs *= len(steps)
	}
	for _, count := range []int{1, 2, 4} {
		for run := range runs {
			p := newPair(t, count, 2)
			left := run
			for range 5 {
				steps[left%len(steps)](t, p)
				left /= len(steps)
			}
			p.same(t)
			p.read(t, 0, most)
			p.read(t, 1, most)
			p.close(t, run%2)
			p.same(t)
			p.close(t, 1-run%2)
		}
	}
}

// draws are numbers that hang on a seed alone.
type draws struct {
	seed uint64
}

// draw tells a number from 0 to below n.
func (d *draws) draw(n int) int {
	d.seed = d.seed*6364136223846793005 + 1442695040888963407
	return int(d.seed>>33) % n
}

// end tells an end, or a number of none now and then.
func (d *draws) end() int {
	if d.draw(50) == 0 {
		return d.draw(7) - 3
	}
	return d.draw(2)
}

// bytes tells bytes, mostly of whole elements, and mostly no more than there is room for.
func (d *draws) bytes(count, size int) []byte {
	n := d.draw(count/2 + 2)
	if d.draw(6) == 0 {
		n = count - 1 + d.draw(4)
	}
	b := make([]byte, n*size)
	if d.draw(8) == 0 {
		b = make([]byte, d.draw(2*count*size))
	}
	for i := range b {
		b[i] = byte(d.draw(256))
	}
	return b
}

// step asks both one thing, and spoils what it was asked with.
func (d *draws) step(t *testing.T, p *pair) {
	t.Helper()
	end := d.end()
	switch d.draw(8) {
	case 0, 1, 2:
		b := d.bytes(p.m.count, p.m.size)
		p.write(t, end, b)
		spoil(b)
	case 3, 4, 5, 6:
		p.read(t, end, d.draw(p.m.count/2+3)-d.draw(2))
	case 7:
		if d.draw(30) == 0 {
			p.close(t, end)
		}
	}
}

// P13.1 to P13.4: thousands of calls come to what they come to in one plain list.
func TestAgainstModel(t *testing.T) {
	for i, of := range [][2]int{{1, 1}, {1, 64}, {2, 3}, {4, 1}, {4, 5}, {8, 2}, {16, 7}, {64, 64}} {
		for seed := range 10 {
			d := draws{seed: uint64(31*i + seed + 1)}
			p := newPair(t, of[0], of[1])
			for range 2000 {
				d.step(t, p)
				p.same(t)
				if p.m.closed[0] && p.m.closed[1] && d.draw(3) == 0 {
					p = newPair(t, of[0], of[1])
				}
			}
		}
	}
}

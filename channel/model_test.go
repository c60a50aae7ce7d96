package channel

import (
	"slices"
	"testing"

	"jacinth/api"
	"jacinth/signal"
)

// waiter is one who waits at an end.
type waiter struct {
	end, caller, txid int
}

// sent is a message with the end where it is to be read.
type sent struct {
	end int
	m   Message
}

// model is a channel as the chapter's words have it, slow and plain: one list of all messages, and one of all who wait.
type model struct {
	depth   int
	closed  [2]bool
	sent    []sent
	waiters []waiter
}

func (m *model) end(end int) api.Status {
	switch {
	case end < 0 || end > 1:
		return api.ErrInvalidArgs
	case m.closed[end]:
		return api.ErrPeerClosed
	}
	return api.OK
}

func (m *model) messages(end int) (told []Message) {
	for _, s := range m.sent {
		if s.end == end {
			told = append(told, s.m)
		}
	}
	return told
}

func (m *model) handles(ends ...int) (told []int) {
	for _, end := range ends {
		for _, got := range m.messages(end) {
			told = append(told, got.Handles...)
		}
	}
	return told
}

func (m *model) write(end int, w Message) (int, api.Status) {
	if s := m.end(end); s != api.OK {
		return 0, s
	}
	to := 1 - end
	if len(w.Data) > 4096 || len(w.Handles) > 64 {
		return 0, api.ErrOutOfRange
	}
	if m.closed[to] {
		return 0, api.ErrPeerClosed
	}
	w = Message{w.Txid, slices.Clone(w.Data), slices.Clone(w.Handles)}
	for i, who := range m.waiters {
		if who.end == to && who.txid == w.Txid {
			m.waiters = slices.Delete(m.waiters, i, i+1)
			m.sent = slices.Insert(m.sent, 0, sent{to, w})
			return who.caller, api.OK
		}
	}
	if len(m.messages(to)) >= m.depth {
		return 0, api.ErrShouldWait
	}
	m.sent = append(m.sent, sent{to, w})
	return -1, api.OK
}

func (m *model) read(end, bytes, handles int) (Message, api.Status) {
	if s := m.end(end); s != api.OK {
		return Message{}, s
	}
	if bytes < 0 || handles < 0 {
		return Message{}, api.ErrInvalidArgs
	}
	for i, s := range m.sent {
		switch {
		case s.end != end:
		case bytes < len(s.m.Data) || handles < len(s.m.Handles):
			return Message{0, make([]byte, len(s.m.Data)), make([]int, len(s.m.Handles))}, api.ErrBufferTooSmall
		default:
			m.sent = slices.Delete(m.sent, i, i+1)
			return s.m, api.OK
		}
	}
	if m.closed[1-end] {
		return Message{}, api.ErrPeerClosed
	}
	return Message{}, api.ErrShouldWait
}

func (m *model) call(end, caller int, w Message) api.Status {
	if s := m.end(end); s != api.OK {
		return s
	}
	if w.Txid == 0 || caller < 0 {
		return api.ErrInvalidArgs
	}
	for _, who := range m.waiters {
		if who.caller == caller || who.end == end && who.txid == w.Txid {
			return api.ErrAlreadyExists
		}
	}
	_, s := m.write(end, w)
	if s == api.OK {
		m.waiters = append(m.waiters, waiter{end, caller, w.Txid})
	}
	return s
}

func (m *model) forget(end, caller int) api.Status {
	if s := m.end(end); s != api.OK {
		return s
	}
	for i, who := range m.waiters {
		if who.end == end && who.caller == caller {
			m.waiters = slices.Delete(m.waiters, i, i+1)
			return api.OK
		}
	}
	return api.ErrNotFound
}

func (m *model) close(end int) (handles, callers []int, s api.Status) {
	if s := m.end(end); s != api.OK {
		return nil, nil, s
	}
	handles = m.handles(end)
	for _, at := range []int{end, 1 - end} {
		for _, who := range m.waiters {
			if who.end == at {
				callers = append(callers, who.caller)
			}
		}
	}
	m.closed[end] = true
	m.waiters = nil
	m.sent = slices.DeleteFunc(m.sent, func(s sent) bool { return s.end == end })
	return handles, callers, api.OK
}

func (m *model) shows(end int) (told signal.Set) {
	if m.end(end) != api.OK {
		return 0
	}
	if len(m.messages(end)) > 0 {
		told += 1
	}
	if !m.closed[1-end] && len(m.messages(1-end)) < m.depth {
		told += 2
	}
	if m.closed[1-end] {
		told += 4
	}
	return told
}

// pair is a channel and a model that are asked the same.
type pair struct {
	c *Channel
	m *model
}

func newPair(depth int) *pair {
	return &pair{c: New(depth), m: &model{depth: depth}}
}

func (p *pair) write(t *testing.T, end int, w Message) {
	t.Helper()
	got, s := p.c.Write(end, w)
	if want, right := p.m.write(end, w); got != want || s != right {
		t.Fatalf("Write(%d, %v): %d, %d; right is %d, %d", end, w, got, s, want, right)
	}
}

func (p *pair) read(t *testing.T, end, bytes, handles int) {
	t.Helper()
	got, s := p.c.Read(end, bytes, handles)
	if want, right := p.m.read(end, bytes, handles); !same(got, want) || s != right {
		t.Fatalf("Read(%d, %d, %d): %v, %d; right is %v, %d", end, bytes, handles, got, s, want, right)
	}
}

func (p *pair) call(t *testing.T, end, caller int, w Message) {
	t.Helper()
	if got, want := p.c.Call(end, caller, w), p.m.call(end, caller, w); got != want {
		t.Fatalf("Call(%d, %d, %v): %d; right is %d", end, caller, w, got, want)
	}
}

func (p *pair) forget(t *testing.T, end, caller int) {
	t.Helper()
	if got, want := p.c.Forget(end, caller), p.m.forget(end, caller); got != want {
		t.Fatalf("Forget(%d, %d): %d; right is %d", end, caller, got, want)
	}
}

func (p *pair) close(t *testing.T, end int) {
	t.Helper()
	h, l, s := p.c.Close(end)
	list, callers, right := p.m.close(end)
	if !slices.Equal(h, list) || !slices.Equal(l, callers) || s != right {
		t.Fatalf("Close(%d): %v, %v, %d; right is %v, %v, %d", end, h, l, s, list, callers, right)
	}
}

// same holds all that is told of a channel against what is right.
func (p *pair) same(t *testing.T) {
	t.Helper()
	for end := -1; end <= 2; end++ {
		want := p.m.messages(end)
		if got := p.c.Messages(end); !slices.EqualFunc(got, want, same) {
			t.Fatalf("Messages(%d): %v; right is %v", end, got, want)
		}
		if got := p.c.Len(end); got != len(want) {
			t.Fatalf("Len(%d): %d; right is %d", end, got, len(want))
		}
		if got := p.c.Open(end); got != (p.m.end(end) == api.OK) {
			t.Fatalf("Open(%d): %t", end, got)
		}
		if got, want := p.c.Shows(end), p.m.shows(end); got != want {
			t.Fatalf("Shows(%d): %d; right is %d", end, got, want)
		}
	}
	if got, want := p.c.Handles(), p.m.handles(0, 1); !slices.Equal(got, want) {
		t.Fatalf("Handles: %v; right is %v", got, want)
	}
}

// small are the steps of which all short runs are gone through.
func small() []func(t *testing.T, p *pair) {
	return []func(t *testing.T, p *pair){
		func(t *testing.T, p *pair) { p.write(t, 0, message(1, "a", 1)) },
		func(t *testing.T, p *pair) { p.write(t, 1, message(1, "b", 2)) },
		func(t *testing.T, p *pair) { p.write(t, 1, message(2, "c", 3)) },
		func(t *testing.T, p *pair) { p.read(t, 0, 1, 1) },
		func(t *testing.T, p *pair) { p.read(t, 1, 1, 1) },
		func(t *testing.T, p *pair) { p.call(t, 0, 5, message(1, "d", 4)) },
		func(t *testing.T, p *pair) { p.call(t, 0, 6, message(2, "e", 5)) },
		func(t *testing.T, p *pair) { p.call(t, 1, 6, message(1, "f", 6)) },
		func(t *testing.T, p *pair) { p.forget(t, 0, 6) },
		func(t *testing.T, p *pair) { p.close(t, 0) },
		func(t *testing.T, p *pair) { p.close(t, 1) },
	}
}

// P11.1 to P11.5: all runs of five of the small steps, at the least depths; at the end both ends are closed.
func TestAllShortRuns(t *testing.T) {
	steps := small()
	runs := 1
	for range 5 {
		runs *= len(steps)
	}
	for _, depth := range []int{1, 2} {
		for run := range runs {
			p := newPair(depth)
			for left := run; left > 0; left /= len(steps) {
				steps[left%len(steps)](t, p)
			}
			p.same(t)
			p.close(t, run%2)
			p.close(t, 1-run%2)
			p.same(t)
			if t.Failed() {
				t.Fatalf("run %d at depth %d", run, depth)
			}
		}
	}
}

// draws are numbers that hang on a seed alone.
type draws struct {
	seed uint64
}

// draw tells a number from 0 to below n.
func (d *draws) draw(n int) int {
	d.seed = d.seed*6364136223846793005 + 1442695040888963407
	return int(d.seed>>33) % n
}

// end tells an end, or a number of none now and then.
func (d *draws) end() int {
	if d.draw(50) == 0 {
		return d.draw(7) - 3
	}
	return d.draw(2)
}

// message tells a message, mostly a short one, with a Txid of a few.
func (d *draws) message() Message {
	m := Message{Txid: d.draw(7) - 1, Data: make([]byte, d.draw(4)), Handles: make([]int, d.draw(4))}
	if d.draw(30) == 0 {
		m.Data = make([]byte, 4094+d.draw(4))
	}
	if d.draw(30) == 0 {
		m.Handles = make([]int, 62+d.draw(4))
	}
	for i := range m.Data {
		m.Data[i] = byte(d.draw(256))
	}
	for i := range m.Handles {
		m.Handles[i] = d.draw(1000) - 1
	}
	return m
}

// step asks both one thing, and spoils what it was asked with.
func (d *draws) step(t *testing.T, p *pair) {
	t.Helper()
	end, m := d.end(), d.message()
	switch d.draw(12) {
	case 0, 1, 2:
		p.write(t, end, m)
	case 3, 4:
		p.read(t, end, d.draw(6)-1, d.draw(6)-1)
	case 5:
		p.read(t, end, 4096, 64)
	case 6, 7, 8:
		p.call(t, end, d.draw(8)-1, m)
	case 9:
		p.forget(t, end, d.draw(8)-1)
	case 10:
		spoilMessages(p.c.Messages(end)...)
		spoil(p.c.Handles(), 99)
	case 11:
		if d.draw(60) == 0 {
			p.close(t, end)
		}
	}
	spoilMessages(m)
}

// P11.1 to P11.6: thousands of calls come to what they come to in one plain list of messages.
func TestAgainstModel(t *testing.T) {
	for i, depth := range []int{1, 2, 3, 5, 8, 20, 100} {
		for seed := range 20 {
			d := draws{seed: uint64(31*i + seed + 1)}
			p := newPair(depth)
			for range 500 {
				d.step(t, p)
				p.same(t)
				if p.m.closed[0] && p.m.closed[1] && d.draw(3) == 0 {
					p = newPair(depth)
				}
			}
		}
	}
}

package channel

import (
	"slices"
	"strings"
	"testing"

	"jacinth/api"
	"jacinth/signal"
)

const (
	most  = 1<<63 - 1
	least = -1 << 63
)

// strangeEnds are numbers that are no end's.
func strangeEnds() []int {
	return []int{least, least + 1, -1 << 32, -3, -2, -1, 2, 3, 4, 255, 256, 257, 1 << 16, 1 << 32, 1<<32 + 1, most - 1, most}
}

// message is text and handles under a Txid.
func message(txid int, text string, handles ...int) Message {
	return Message{Txid: txid, Data: []byte(text), Handles: handles}
}

// same tells whether two messages have the same Txid, bytes and handles.
func same(a, b Message) bool {
	return a.Txid == b.Txid && string(a.Data) == string(b.Data) && slices.Equal(a.Handles, b.Handles)
}

// open makes a channel, which there must be.
func open(t *testing.T, depth int) *Channel {
	t.Helper()
	c := New(depth)
	if c == nil {
		t.Fatalf("New(%d): nil", depth)
	}
	return c
}

// status holds a status against the one that is right.
func status(t *testing.T, want, got api.Status) {
	t.Helper()
	if got != want {
		t.Errorf("%d; right is %d", got, want)
	}
}

// write writes a message, for which just this caller must have waited.
func write(t *testing.T, c *Channel, end int, m Message, want int) {
	t.Helper()
	if got, s := c.Write(end, m); got != want || s != api.OK {
		t.Errorf("Write(%d, %v): %d, %d; right is %d, 0", end, m, got, s, want)
	}
}

// noWrite writes a message that must be refused.
func noWrite(t *testing.T, c *Channel, end int, m Message, want api.Status) {
	t.Helper()
	if got, s := c.Write(end, m); got != 0 || s != want {
		t.Errorf("Write(%d, %d, %d bytes, %d handles): %d, %d; right is 0, %d", end, m.Txid, len(m.Data), len(m.Handles), got, s, want)
	}
}

// read reads a message, with room for just that.
func read(t *testing.T, c *Channel, end int, want Message) {
	t.Helper()
	if got, s := c.Read(end, len(want.Data), len(want.Handles)); !same(got, want) || s != api.OK {
		t.Errorf("Read(%d, ..): %v, %d; right is %v, 0", end, got, s, want)
	}
}

// noRead reads where nothing may be told but the status.
func noRead(t *testing.T, c *Channel, end, bytes, handles int, want api.Status) {
	t.Helper()
	if got, s := c.Read(end, bytes, handles); !same(got, Message{}) || s != want {
		t.Errorf("Read(%d, %d, %d): %v, %d; right is nothing, %d", end, bytes, handles, got, s, want)
	}
}

// noRoom reads where so many bytes and handles wait, for which there is no room.
func noRoom(t *testing.T, c *Channel, end, bytes, handles, data, list int) {
	t.Helper()
	want := Message{Data: make([]byte, data), Handles: make([]int, list)}
	if got, s := c.Read(end, bytes, handles); !same(got, want) || s != api.ErrBufferTooSmall {
		t.Errorf("Read(%d, %d, %d): %v, %d; right is %d and %d of 0, %d", end, bytes, handles, got, s, data, list, api.ErrBufferTooSmall)
	}
}

// queue holds an end's queue against what is right, by all that tells of it.
func queue(t *testing.T, c *Channel, end int, want ...Message) {
	t.Helper()
	if got := c.Messages(end); !slices.EqualFunc(got, want, same) {
		t.Errorf("Messages(%d): %v; right is %v", end, got, want)
	}
	if got := c.Len(end); got != len(want) {
		t.Errorf("Len(%d): %d; right is %d", end, got, len(want))
	}
}

// shows holds the signals of both ends against those that are right, as text.
func shows(t *testing.T, c *Channel, first, second string) {
	t.Helper()
	if a, b := c.Shows(0).Text(), c.Shows(1).Text(); a != first || b != second {
		t.Errorf("Shows: %s, %s; right is %s, %s", a, b, first, second)
	}
}

// shut closes an end, where just these handles and callers must be told.
func shut(t *testing.T, c *Channel, end int, handles, callers []int) {
	t.Helper()
	if h, l, s := c.Close(end); !slices.Equal(h, handles) || !slices.Equal(l, callers) || s != api.OK {
		t.Errorf("Close(%d): %v, %v, %d; right is %v, %v, 0", end, h, l, s, handles, callers)
	}
}

// noShut closes an end that can't be closed.
func noShut(t *testing.T, c *Channel, end int, want api.Status) {
	t.Helper()
	if h, l, s := c.Close(end); len(h) != 0 || len(l) != 0 || s != want {
		t.Errorf("Close(%d): %v, %v, %d; right is nothing, %d", end, h, l, s, want)
	}
}

// handles holds those of all messages against what is right.
func handles(t *testing.T, c *Channel, want ...int) {
	t.Helper()
	if got := c.Handles(); !slices.Equal(got, want) {
		t.Errorf("Handles: %v; right is %v", got, want)
	}
}

// The chapter's examples.
func TestExamples(t *testing.T) {
	c := open(t, 4)
	write(t, c, 0, message(7, "hi", 5), -1)
	noRoom(t, c, 1, 1, 1, 2, 1)
	if m, s := c.Read(1, 2, 1); !same(m, message(7, "hi", 5)) || s != api.OK {
		t.Errorf("Read: %v, %d", m, s)
	}
	status(t, api.OK, c.Call(0, 9, message(3, "q")))
	if m, s := c.Read(1, 9, 9); !same(m, message(3, "q")) || s != api.OK {
		t.Errorf("Read: %v, %d", m, s)
	}
	write(t, c, 1, message(3, "a"), 9)
	if m, s := c.Read(0, 9, 9); !same(m, message(3, "a")) || s != api.OK {
		t.Errorf("Read: %v, %d", m, s)
	}
}

// P11.1: which channels there are, and how they begin.
func TestNew(t *testing.T) {
	for _, depth := range []int{least, least + 1, -1 << 32, -2, -1, 0, 1<<16 + 1, 1<<16 + 2, 1 << 17, 1 << 32, 1<<32 + 1, most - 1, most} {
		if New(depth) != nil {
			t.Errorf("New(%d): a channel", depth)
		}
	}
	for _, depth := range []int{1, 2, 3, 1000, 1<<16 - 1, 1 << 16} {
		c := open(t, depth)
		for end := range 2 {
			if !c.Open(end) {
				t.Errorf("New(%d): end %d is not open", depth, end)
			}
			queue(t, c, end)
			noRead(t, c, end, 9, 9, api.ErrShouldWait)
		}
		shows(t, c, "w", "w")
		if c.Shows(0) != signal.First(api.Channel) {
			t.Errorf("Shows(0): %d", c.Shows(0))
		}
		handles(t, c)
		shut(t, c, 0, nil, nil)
		shut(t, c, 1, nil, nil)
	}
}

// P11.1: two channels have nothing in common.
func TestTwoChannels(t *testing.T) {
	a, b := open(t, 1), open(t, 1)
	write(t, a, 0, message(1, "a", 1), -1)
	status(t, api.OK, a.Call(1, 5, message(2, "x")))
	queue(t, b, 1)
	write(t, b, 0, message(2, "b"), -1)
	shut(t, b, 0, nil, nil)
	shows(t, a, "r", "r")
	queue(t, a, 1, message(1, "a", 1))
}

// P11.1: of what is no end nothing is told, whatever else is wrong, and nothing is done.
func TestStrangeEnds(t *testing.T) {
	c := open(t, 2)
	status(t, api.OK, c.Call(0, 5, message(1, "a", 1)))
	write(t, c, 1, message(2, "b", 2), -1)
	for _, end := range strangeEnds() {
		noWrite(t, c, end, message(1, "x", 9), api.ErrInvalidArgs)
		noWrite(t, c, end, message(1, strings.Repeat("x", 4097)), api.ErrInvalidArgs)
		noRead(t, c, end, 9, 9, api.ErrInvalidArgs)
		noRead(t, c, end, -1, -1, api.ErrInvalidArgs)
		noRead(t, c, end, 0, 0, api.ErrInvalidArgs)
		status(t, api.ErrInvalidArgs, c.Call(end, 6, message(2, "x")))
		status(t, api.ErrInvalidArgs, c.Call(end, 5, message(2, "x")))
		status(t, api.ErrInvalidArgs, c.Call(end, -1, message(0, "")))
		status(t, api.ErrInvalidArgs, c.Forget(end, 5))
		status(t, api.ErrInvalidArgs, c.Forget(end, 6))
		noShut(t, c, end, api.ErrInvalidArgs)
		queue(t, c, end)
		if c.Open(end) || c.Shows(end) != 0 {
			t.Errorf("end %d: %t, %d", end, c.Open(end), c.Shows(end))
		}
	}
	queue(t, c, 0, message(2, "b", 2))
	queue(t, c, 1, message(1, "a", 1))
	shows(t, c, "rw", "rw")
	shut(t, c, 1, []int{1}, []int{5})
	for _, end := range strangeEnds() {
		noWrite(t, c, end, message(1, "x"), api.ErrInvalidArgs)
		noShut(t, c, end, api.ErrInvalidArgs)
	}
}

// P11.1: of an end that is closed, whatever else is wrong.
func TestClosedEnds(t *testing.T) {
	for end := range 2 {
		c := open(t, 2)
		write(t, c, end, message(1, "to the other", 1), -1)
		write(t, c, 1-end, message(2, "to this", 2), -1)
		shut(t, c, end, []int{2}, nil)
		for range 2 {
			noWrite(t, c, end, message(1, "x", 9), api.ErrPeerClosed)
			noWrite(t, c, end, message(1, strings.Repeat("x", 4097)), api.ErrPeerClosed)
			noWrite(t, c, end, Message{Handles: make([]int, 65)}, api.ErrPeerClosed)
			noRead(t, c, end, 9, 9, api.ErrPeerClosed)
			noRead(t, c, end, -1, 0, api.ErrPeerClosed)
			noRead(t, c, end, 0, -1, api.ErrPeerClosed)
			status(t, api.ErrPeerClosed, c.Call(end, 6, message(2, "x")))
			status(t, api.ErrPeerClosed, c.Call(end, -1, message(2, "x")))
			status(t, api.ErrPeerClosed, c.Call(end, 6, message(0, "x")))
			status(t, api.ErrPeerClosed, c.Forget(end, 6))
			status(t, api.ErrPeerClosed, c.Forget(end, -1))
			noShut(t, c, end, api.ErrPeerClosed)
			queue(t, c, end)
			if c.Open(end) || c.Shows(end) != 0 {
				t.Errorf("end %d: %t, %d", end, c.Open(end), c.Shows(end))
			}
		}
		queue(t, c, 1-end, message(1, "to the other", 1))
		read(t, c, 1-end, message(1, "to the other", 1))
		shut(t, c, 1-end, nil, nil)
		noShut(t, c, end, api.ErrPeerClosed)
		noShut(t, c, 1-end, api.ErrPeerClosed)
		noWrite(t, c, 1-end, message(1, "x"), api.ErrPeerClosed)
	}
}

// P11.2, P11.3: messages stand behind each other, and each end's are its own.
func TestWriteAndRead(t *testing.T) {
	c := open(t, 3)
	write(t, c, 0, message(1, "one", 10, 11), -1)
	write(t, c, 0, message(0, "two", 20), -1)
	write(t, c, 1, message(-5, "back", 30), -1)
	queue(t, c, 1, message(1, "one", 10, 11), message(0, "two", 20))
	queue(t, c, 0, message(-5, "back", 30))
	handles(t, c, 30, 10, 11, 20)
	read(t, c, 1, message(1, "one", 10, 11))
	write(t, c, 0, message(1, "three"), -1)
	write(t, c, 0, message(1, "four", 40), -1)
	noWrite(t, c, 0, message(1, "five", 50), api.ErrShouldWait)
	queue(t, c, 1, message(0, "two", 20), message(1, "three"), message(1, "four", 40))
	read(t, c, 1, message(0, "two", 20))
	read(t, c, 0, message(-5, "back", 30))
	noRead(t, c, 0, 9, 9, api.ErrShouldWait)
	read(t, c, 1, message(1, "three"))
	handles(t, c, 40)
	read(t, c, 1, message(1, "four", 40))
	noRead(t, c, 1, 9, 9, api.ErrShouldWait)
	noRead(t, c, 1, 0, 0, api.ErrShouldWait)
}

// P11.2: any Txid, bytes and handles are carried as they are; the channel does not look at handles.
func TestAnyMessage(t *testing.T) {
	all := make([]byte, 256)
	for i := range all {
		all[i] = byte(i)
	}
	messages := []Message{
		{}, {Data: []byte{}, Handles: []int{}}, {Txid: most, Data: all, Handles: []int{most, least, 0, 0, -1, 7, 7}}, {Txid: least}, {Handles: []int{0}}, {Data: []byte{0}},
	}
	c := open(t, len(messages))
	for _, m := range messages {
		write(t, c, 1, m, -1)
	}
	queue(t, c, 0, messages...)
	for _, m := range messages {
		read(t, c, 0, m)
	}
}

// P11.2: how many bytes and handles a message may have, ahead of all else that is wrong there.
func TestMessageLimits(t *testing.T) {
	full := Message{Txid: 1, Data: make([]byte, 4096), Handles: make([]int, 64)}
	long := Message{Txid: 1, Data: make([]byte, 4097)}
	many := Message{Txid: 1, Handles: make([]int, 65)}
	longest := Message{Txid: 1, Data: make([]byte, 1<<20), Handles: make([]int, 1<<16)}
	c := open(t, 1)
	for _, m := range []Message{long, many, longest} {
		noWrite(t, c, 0, m, api.ErrOutOfRange)
		status(t, api.ErrOutOfRange, c.Call(0, 5, m))
		status(t, api.ErrNotFound, c.Forget(0, 5))
	}
	queue(t, c, 1)
	write(t, c, 0, full, -1)
	queue(t, c, 1, full)
	for _, m := range []Message{long, many, longest} {
		noWrite(t, c, 0, m, api.ErrOutOfRange)
	}
	noRoom(t, c, 1, 4095, 64, 4096, 64)
	noRoom(t, c, 1, 4096, 63, 4096, 64)
	read(t, c, 1, full)
	// A caller that waits goes on to wait.
	status(t, api.OK, c.Call(1, 5, message(1, "")))
	for _, m := range []Message{long, many, longest} {
		noWrite(t, c, 0, m, api.ErrOutOfRange)
	}
	write(t, c, 0, full, 5)
	shut(t, c, 1, make([]int, 64), nil)
	for _, m := range []Message{long, many, longest} {
		noWrite(t, c, 0, m, api.ErrOutOfRange)
	}
	noWrite(t, c, 0, full, api.ErrPeerClosed)
}

// P11.2: a message of so many bytes, or of so many handles, alone.
func TestOneLimit(t *testing.T) {
	c := open(t, 2)
	write(t, c, 0, Message{Data: make([]byte, 4096)}, -1)
	write(t, c, 0, Message{Handles: make([]int, 64)}, -1)
	noRoom(t, c, 1, 0, 0, 4096, 0)
	read(t, c, 1, Message{Data: make([]byte, 4096)})
	noRoom(t, c, 1, 0, 0, 0, 64)
	read(t, c, 1, Message{Handles: make([]int, 64)})
}

// P11.2: at each depth just so many messages wait.
func TestDepth(t *testing.T) {
	for _, depth := range []int{1, 2, 3, 4, 5, 64, 1<<16 - 1, 1 << 16} {
		for end := range 2 {
			c := open(t, depth)
			for i := range depth {
				if c.Shows(end) != signal.Writable {
					t.Fatalf("depth %d: with %d messages end %d shows %d", depth, i, end, c.Shows(end))
				}
				write(t, c, end, Message{Txid: i, Handles: []int{i}}, -1)
			}
			noWrite(t, c, end, message(1, "x"), api.ErrShouldWait)
			if c.Shows(end) != 0 || c.Len(1-end) != depth || len(c.Handles()) != depth || len(c.Messages(1-end)) != depth {
				t.Errorf("depth %d: %d, %d", depth, c.Shows(end), c.Len(1-end))
			}
			// The other way there is still room.
			write(t, c, 1-end, message(1, "x"), -1)
			for i := range depth {
				read(t, c, 1-end, Message{Txid: i, Handles: []int{i}})
			}
			noRead(t, c, 1-end, 9, 9, api.ErrShouldWait)
		}
	}
}

// P11.2: when a queue is full, one that is read makes room for one.
func TestRoomAgain(t *testing.T) {
	c := open(t, 3)
	for i := range 3 {
		write(t, c, 0, message(i, "a"), -1)
	}
	for i := range 1000 {
		noWrite(t, c, 0, message(i+3, "a"), api.ErrShouldWait)
		read(t, c, 1, message(i, "a"))
		shows(t, c, "w", "rw")
		write(t, c, 0, message(i+3, "a"), -1)
		shows(t, c, "-", "rw")
	}
	queue(t, c, 1, message(1000, "a"), message(1001, "a"), message(1002, "a"))
}

// P11.3: what is said of the room, at all rooms about that which is needed; what is too great stays.
func TestReadRoom(t *testing.T) {
	for data := range 4 {
		for list := range 4 {
			m := Message{Txid: 3, Data: []byte("abc")[:data], Handles: []int{7, 8, 9}[:list]}
			c := open(t, 2)
			write(t, c, 0, m, -1)
			write(t, c, 0, message(4, "next", 1), -1)
			for bytes := -1; bytes < data; bytes++ {
				for handles := -1; handles < list+2; handles++ {
					tooSmall(t, c, m, bytes, handles)
				}
			}
			for handles := -1; handles < list; handles++ {
				tooSmall(t, c, m, data, handles)
				tooSmall(t, c, m, data+1, handles)
				tooSmall(t, c, m, most, handles)
			}
			queue(t, c, 1, m, message(4, "next", 1))
			if got, s := c.Read(1, most, most); !same(got, m) || s != api.OK {
				t.Errorf("Read: %v, %d; right is %v", got, s, m)
			}
			read(t, c, 1, message(4, "next", 1))
		}
	}
}

// tooSmall reads the message m at end 1 with too little room, maybe even below 0.
func tooSmall(t *testing.T, c *Channel, m Message, bytes, handles int) {
	t.Helper()
	if bytes < 0 || handles < 0 {
		noRead(t, c, 1, bytes, handles, api.ErrInvalidArgs)
	} else {
		noRoom(t, c, 1, bytes, handles, len(m.Data), len(m.Handles))
	}
}

// P11.3: which status comes first.
func TestReadErrors(t *testing.T) {
	c := open(t, 2)
	for _, n := range []int{-1, -2, -1 << 32, least + 1, least} {
		noRead(t, c, 0, n, 0, api.ErrInvalidArgs)
		noRead(t, c, 0, 0, n, api.ErrInvalidArgs)
		noRead(t, c, 0, n, n, api.ErrInvalidArgs)
		noRead(t, c, 0, most, n, api.ErrInvalidArgs)
		noRead(t, c, 0, n, most, api.ErrInvalidArgs)
	}
	write(t, c, 1, message(1, "abc", 1), -1)
	noRead(t, c, 0, -1, 0, api.ErrInvalidArgs)
	noRead(t, c, 0, 0, -1, api.ErrInvalidArgs)
	shut(t, c, 1, nil, nil)
	noRead(t, c, 0, -1, 9, api.ErrInvalidArgs)
	// What was written ahead of closing is read behind it.
	noRoom(t, c, 0, 2, 1, 3, 1)
	read(t, c, 0, message(1, "abc", 1))
	noRead(t, c, 0, -1, 0, api.ErrInvalidArgs)
	noRead(t, c, 0, 0, -1, api.ErrInvalidArgs)
	noRead(t, c, 0, 0, 0, api.ErrPeerClosed)
	noRead(t, c, 0, most, most, api.ErrPeerClosed)
}

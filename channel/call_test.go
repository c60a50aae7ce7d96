package channel

import (
	"slices"
	"strings"
	"testing"

	"jacinth/api"
)

// call lets a caller wait, where that must be OK.
func call(t *testing.T, c *Channel, end, caller int, m Message) {
	t.Helper()
	if s := c.Call(end, caller, m); s != api.OK {
		t.Errorf("Call(%d, %d, %v): %d", end, caller, m, s)
	}
}

// P11.4: a call's message stands behind the others; what is not waited for does not wake.
func TestCall(t *testing.T) {
	for end := range 2 {
		c := open(t, 4)
		write(t, c, end, message(1, "first"), -1)
		call(t, c, end, 9, message(3, "asked", 5))
		queue(t, c, 1-end, message(1, "first"), message(3, "asked", 5))
		write(t, c, 1-end, message(4, "of another"), -1)
		write(t, c, 1-end, message(0, "of none"), -1)
		write(t, c, 1-end, message(-3, "of its like"), -1)
		// One's own message is no answer.
		write(t, c, end, message(3, "asked again"), -1)
		write(t, c, 1-end, message(3, "answer", 6), 9)
		queue(t, c, end, message(3, "answer", 6), message(4, "of another"), message(0, "of none"), message(-3, "of its like"))
		write(t, c, end, message(7, "x"), -1)
		noWrite(t, c, 1-end, message(3, "another answer"), api.ErrShouldWait)
		status(t, api.ErrNotFound, c.Forget(end, 9))
		shut(t, c, 1-end, []int{5}, nil)
	}
}

// P11.4: a message that stood there ahead of the call is no answer to it.
func TestEarlyAnswer(t *testing.T) {
	c := open(t, 2)
	write(t, c, 1, message(3, "early"), -1)
	call(t, c, 0, 9, message(3, "asked"))
	read(t, c, 0, message(3, "early"))
	write(t, c, 1, message(3, "answer"), 9)
}

// P11.4: any caller from 0 on, any Txid but 0.
func TestAnyCaller(t *testing.T) {
	c := open(t, 1)
	for _, caller := range []int{0, 1, 2, 1 << 16, 1 << 32, most - 1, most} {
		for _, txid := range []int{1, -1, 2, 1 << 32, most, least} {
			call(t, c, 1, caller, message(txid, "asked"))
			read(t, c, 0, message(txid, "asked"))
			write(t, c, 0, message(txid, "answer"), caller)
			read(t, c, 1, message(txid, "answer"))
		}
	}
}

// P11.2, P11.4: an answer stands at the head, even of a full queue, each ahead of the one ahead of it.
func TestAnswersAtHead(t *testing.T) {
	c := open(t, 2)
	for i := range 5 {
		call(t, c, 0, 10+i, message(1+i, "asked"))
		read(t, c, 1, message(1+i, "asked"))
	}
	write(t, c, 1, message(8, "a", 1), -1)
	write(t, c, 1, message(4, "answer 4", 2), 13)
	shows(t, c, "rw", "-")
	noWrite(t, c, 1, message(8, "b"), api.ErrShouldWait)
	write(t, c, 1, message(1, "answer 1", 3), 10)
	write(t, c, 1, message(5, "answer 5", 4), 14)
	queue(t, c, 0, message(5, "answer 5", 4), message(1, "answer 1", 3), message(4, "answer 4", 2), message(8, "a", 1))
	handles(t, c, 4, 3, 2, 1)
	// A queue of more than depth messages is full till it has fewer.
	noWrite(t, c, 1, message(1, "no more"), api.ErrShouldWait)
	read(t, c, 0, message(5, "answer 5", 4))
	noWrite(t, c, 1, message(8, "b"), api.ErrShouldWait)
	read(t, c, 0, message(1, "answer 1", 3))
	noWrite(t, c, 1, message(8, "b"), api.ErrShouldWait)
	shows(t, c, "rw", "-")
	read(t, c, 0, message(4, "answer 4", 2))
	shows(t, c, "rw", "w")
	write(t, c, 1, message(8, "b", 5), -1)
	write(t, c, 1, message(2, "answer 2", 6), 11)
	noRoom(t, c, 0, 7, 1, 8, 1)
	noRoom(t, c, 0, 8, 0, 8, 1)
	queue(t, c, 0, message(2, "answer 2", 6), message(8, "a", 1), message(8, "b", 5))
	shut(t, c, 0, []int{6, 1, 5}, []int{12})
}

// P11.2: at the greatest depth, too, a queue has one more by an answer.
func TestDeepAnswer(t *testing.T) {
	c := open(t, 1<<16)
	call(t, c, 0, 1, message(-1, "asked"))
	for i := range 1 << 16 {
		write(t, c, 1, Message{Txid: i}, -1)
	}
	noWrite(t, c, 1, message(1, "x"), api.ErrShouldWait)
	write(t, c, 1, message(-1, "answer"), 1)
	if c.Len(0) != 1<<16+1 {
		t.Errorf("Len(0): %d", c.Len(0))
	}
	noWrite(t, c, 1, message(1, "x"), api.ErrShouldWait)
	read(t, c, 0, message(-1, "answer"))
	noWrite(t, c, 1, message(1, "x"), api.ErrShouldWait)
	for i := range 1 << 16 {
		read(t, c, 0, Message{Txid: i})
	}
}

// P11.4: what is wrong with a call, in order; what is refused changes nothing.
func TestCallErrors(t *testing.T) {
	c := open(t, 2)
	call(t, c, 0, 5, message(1, "asked"))
	for _, caller := range []int{-1, -2, -5, -1 << 32, least + 1, least} {
		status(t, api.ErrInvalidArgs, c.Call(0, caller, message(2, "x")))
		status(t, api.ErrInvalidArgs, c.Call(0, caller, message(1, "x")))
		status(t, api.ErrInvalidArgs, c.Call(0, caller, message(0, "x")))
	}
	status(t, api.ErrInvalidArgs, c.Call(0, 6, message(0, "x")))
	status(t, api.ErrInvalidArgs, c.Call(0, 5, message(0, strings.Repeat("x", 4097))))
	// The caller waits here, the caller waits there, or one waits here for this Txid.
	status(t, api.ErrAlreadyExists, c.Call(0, 5, message(2, "x")))
	status(t, api.ErrAlreadyExists, c.Call(1, 5, message(2, "x")))
	status(t, api.ErrAlreadyExists, c.Call(1, 5, message(1, "x")))
	status(t, api.ErrAlreadyExists, c.Call(0, 6, message(1, "x")))
	status(t, api.ErrAlreadyExists, c.Call(0, 5, Message{Txid: 2, Data: make([]byte, 4097)}))
	status(t, api.ErrAlreadyExists, c.Call(0, 6, Message{Txid: 1, Handles: make([]int, 65)}))
	status(t, api.ErrOutOfRange, c.Call(0, 6, Message{Txid: 2, Handles: make([]int, 65)}))
	status(t, api.OK, c.Call(0, 6, message(2, "asked")))
	// End 1's queue is full.
	status(t, api.ErrAlreadyExists, c.Call(0, 6, message(3, "x")))
	status(t, api.ErrOutOfRange, c.Call(0, 7, Message{Txid: 3, Data: make([]byte, 4097)}))
	status(t, api.ErrShouldWait, c.Call(0, 7, message(3, "x")))
	status(t, api.ErrNotFound, c.Forget(0, 7))
	queue(t, c, 0)
	queue(t, c, 1, message(1, "asked"), message(2, "asked"))
	shut(t, c, 1, nil, []int{5, 6})
	status(t, api.ErrInvalidArgs, c.Call(0, 5, message(0, "x")))
	status(t, api.ErrOutOfRange, c.Call(0, 5, Message{Txid: 3, Data: make([]byte, 4097)}))
	status(t, api.ErrPeerClosed, c.Call(0, 5, message(1, "x")))
	status(t, api.ErrNotFound, c.Forget(0, 5))
	shut(t, c, 0, nil, nil)
}

// P11.4: a call may itself be an answer; then its message stands at the head of a full queue, and its caller waits.
func TestCallAnswersCall(t *testing.T) {
	c := open(t, 1)
	call(t, c, 0, 9, message(3, "asked", 1))
	write(t, c, 1, message(8, "x", 2), -1)
	status(t, api.ErrShouldWait, c.Call(1, 7, message(4, "x")))
	call(t, c, 1, 7, message(3, "asked back", 3))
	queue(t, c, 0, message(3, "asked back", 3), message(8, "x", 2))
	status(t, api.ErrNotFound, c.Forget(0, 9))
	status(t, api.ErrNotFound, c.Forget(0, 7))
	// The one who was answered may wait again, by an answer of its own.
	call(t, c, 0, 9, message(3, "once more", 4))
	queue(t, c, 1, message(3, "once more", 4), message(3, "asked", 1))
	status(t, api.ErrNotFound, c.Forget(1, 7))
	write(t, c, 1, message(3, "answer", 5), 9)
	shut(t, c, 0, []int{5, 3, 2}, nil)
}

// P11.4: whoever is forgotten, or was answered, may call again, as may another one for that Txid.
func TestForget(t *testing.T) {
	c := open(t, 8)
	for _, caller := range []int{5, -5, 0, -1, least, most} {
		status(t, api.ErrNotFound, c.Forget(0, caller))
	}
	call(t, c, 0, 5, message(1, "asked"))
	call(t, c, 0, 0, message(2, "asked"))
	call(t, c, 0, 6, message(3, "asked"))
	status(t, api.ErrNotFound, c.Forget(1, 5))
	status(t, api.ErrNotFound, c.Forget(0, 1))
	status(t, api.OK, c.Forget(0, 0))
	status(t, api.ErrNotFound, c.Forget(0, 0))
	// What it wrote stays.
	queue(t, c, 1, message(1, "asked"), message(2, "asked"), message(3, "asked"))
	write(t, c, 1, message(2, "nobody's"), -1)
	call(t, c, 0, 7, message(2, "asked by another"))
	call(t, c, 1, 0, message(5, "asked there"))
	status(t, api.ErrNotFound, c.Forget(0, 0))
	write(t, c, 1, message(2, "answer"), 7)
	call(t, c, 0, 7, message(9, "asked"))
	status(t, api.OK, c.Forget(0, 5))
	call(t, c, 0, 5, message(1, "asked again"))
	shut(t, c, 0, nil, []int{6, 7, 5, 0})
}

// P11.5: the handles of this end's queue, and the callers of this end ahead of the other one's.
func TestClose(t *testing.T) {
	for end := range 2 {
		c := open(t, 8)
		call(t, c, 1-end, 20, message(1, "x", 1, 2))
		call(t, c, end, 11, message(2, "x", 3))
		call(t, c, 1-end, 15, message(3, "x", 4))
		call(t, c, end, 10, message(4, "x", 5, 6))
		call(t, c, end, 30, message(5, "x"))
		write(t, c, 1-end, message(4, "answer", 7, 7), 10)
		status(t, api.OK, c.Forget(1-end, 20))
		call(t, c, 1-end, 20, message(6, "x", 8))
		shut(t, c, end, []int{7, 7, 1, 2, 4, 8}, []int{11, 30, 15, 20})
		if c.Open(end) || !c.Open(1-end) {
			t.Errorf("Open: %t, %t", c.Open(0), c.Open(1))
		}
		queue(t, c, end)
		queue(t, c, 1-end, message(2, "x", 3), message(4, "x", 5, 6), message(5, "x"))
		handles(t, c, 3, 5, 6)
		for _, caller := range []int{11, 30, 15, 20} {
			status(t, api.ErrNotFound, c.Forget(1-end, caller))
		}
		read(t, c, 1-end, message(2, "x", 3))
		shut(t, c, 1-end, []int{5, 6}, nil)
		queue(t, c, 1-end)
		handles(t, c)
		shows(t, c, "-", "-")
	}
}

// P11.5: what both ends show, step by step.
func TestShows(t *testing.T) {
	c := open(t, 2)
	shows(t, c, "w", "w")
	write(t, c, 0, message(1, ""), -1)
	shows(t, c, "w", "rw")
	write(t, c, 0, message(2, ""), -1)
	shows(t, c, "-", "rw")
	write(t, c, 1, message(3, ""), -1)
	shows(t, c, "r", "rw")
	read(t, c, 1, message(1, ""))
	shows(t, c, "rw", "rw")
	read(t, c, 1, message(2, ""))
	shows(t, c, "rw", "w")
	read(t, c, 0, message(3, ""))
	shows(t, c, "w", "w")
	// Who waits does not show, an answer does.
	call(t, c, 1, 5, message(4, ""))
	shows(t, c, "rw", "w")
	write(t, c, 0, message(4, ""), 5)
	shows(t, c, "rw", "rw")
}

// P11.5: closing shows at the other end alone.
func TestShowsClosed(t *testing.T) {
	for end := range 2 {
		for _, full := range []bool{false, true} {
			c := open(t, 1)
			if full {
				write(t, c, end, message(1, "a"), -1)
				write(t, c, 1-end, message(1, "b"), -1)
				shows(t, c, "r", "r")
			}
			shut(t, c, end, nil, nil)
			want := "p"
			if full {
				want = "rp"
			}
			if got := c.Shows(1 - end).Text(); got != want || c.Shows(end) != 0 {
				t.Errorf("Shows: %s, %d; right is %s, 0", got, c.Shows(end), want)
			}
			if full {
				read(t, c, 1-end, message(1, "a"))
			}
			if got := c.Shows(1 - end).Text(); got != "p" {
				t.Errorf("Shows: %s; right is p", got)
			}
		}
	}
}

// spoil changes a list, with all its spare room.
func spoil[T any](list []T, by T) {
	list = list[:cap(list)]
	for i := range list {
		list[i] = by
	}
}

// spoilMessages changes messages with all their spare room.
func spoilMessages(messages ...Message) {
	for _, m := range messages {
		spoil(m.Data, '!')
		spoil(m.Handles, 99)
	}
}

// roomy is a message whose lists have spare room, which lies in the lists that are told, too.
func roomy() (m Message, data []byte, list []int) {
	data, list = []byte("abcdef"), []int{1, 2, 3, 4, 5, 6}
	return Message{Txid: 3, Data: data[1:3], Handles: list[1:4]}, data, list
}

// P11.6: what is handed in is not changed, and not kept.
func TestHandedIn(t *testing.T) {
	ways := []func(c *Channel, m Message){
		func(c *Channel, m Message) { write(t, c, 0, m, -1) },
		func(c *Channel, m Message) { call(t, c, 0, 8, m) },
		func(c *Channel, m Message) {
			call(t, c, 1, 8, message(3, ""))
			write(t, c, 0, m, 8)
		},
	}
	for _, way := range ways {
		m, data, list := roomy()
		c := open(t, 2)
		way(c, m)
		write(t, c, 0, message(1, "more", 7, 7, 7, 7), -1)
		if string(data) != "abcdef" || !slices.Equal(list, []int{1, 2, 3, 4, 5, 6}) {
			t.Errorf("what was handed in is %q, %v", data, list)
		}
		spoil(data, '!')
		spoil(list, 99)
		queue(t, c, 1, message(3, "bc", 2, 3, 4), message(1, "more", 7, 7, 7, 7))
		handles(t, c, 2, 3, 4, 7, 7, 7, 7)
		read(t, c, 1, message(3, "bc", 2, 3, 4))
	}
}

// P11.6: of an empty list, too, the room is not used.
func TestHandedInEmpty(t *testing.T) {
	_, data, list := roomy()
	c := open(t, 2)
	write(t, c, 0, Message{Data: data[:0], Handles: list[:0]}, -1)
	messages := c.Messages(1)
	m, s := c.Read(1, 0, 0)
	status(t, api.OK, s)
	for _, m := range append(messages, m) {
		spoilMessages(m)
		_ = append(append(m.Data, '?'), '?')
		_ = append(append(m.Handles, 98), 98)
	}
	if string(data) != "abcdef" || !slices.Equal(list, []int{1, 2, 3, 4, 5, 6}) {
		t.Errorf("what was handed in is %q, %v", data, list)
	}
}

// P11.6: what is told is new memory, its spare room too.
func TestTold(t *testing.T) {
	c := open(t, 4)
	want := []Message{message(1, "one", 1, 2, 3), message(2, "two", 4), message(0, "x", 5), message(0, "")}
	for _, m := range want {
		write(t, c, 0, m, -1)
		write(t, c, 1, m, -1)
	}
	told := c.Messages(1)
	again := c.Messages(1)
	for i := range told {
		spoilMessages(told[i])
		if !slices.EqualFunc(again, want, same) || !slices.EqualFunc(told[i+1:], want[i+1:], same) {
			t.Fatalf("%v, %v; right is %v", told, again, want)
		}
	}
	spoil(told, message(9, "strange"))
	spoil(c.Handles(), 99)
	queue(t, c, 1, want...)
	handles(t, c, 1, 2, 3, 4, 5, 1, 2, 3, 4, 5)
	blanks, _ := c.Read(1, 0, 0)
	spoilMessages(blanks)
	noRoom(t, c, 1, 0, 0, 3, 3)
	first, _ := c.Read(1, 9, 9)
	spoilMessages(first)
	queue(t, c, 1, want[1:]...)
	queue(t, c, 0, want...)
	read(t, c, 1, want[1])
}

// P11.6: both lists that Close tells are new memory, and share none.
func TestToldByClose(t *testing.T) {
	c := open(t, 4)
	call(t, c, 0, 5, message(1, "a", 1, 2))
	call(t, c, 0, 6, message(2, "b", 3))
	call(t, c, 1, 7, message(3, "c", 4, 5))
	list, callers, s := c.Close(1)
	status(t, api.OK, s)
	spoil(list, 99)
	if !slices.Equal(callers, []int{7, 5, 6}) {
		t.Errorf("callers: %v", callers)
	}
	spoil(callers, 98)
	queue(t, c, 0, message(3, "c", 4, 5))
	shut(t, c, 0, []int{4, 5}, nil)
	if len(list) != 3 || list[0] != 99 {
		t.Errorf("handles: %v", list)
	}
}

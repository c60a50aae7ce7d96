package socket

import (
	"strconv"
	"strings"
	"testing"

	"jacinth/api"
	"jacinth/signal"
)

const (
	most  = 1<<63 - 1
	least = -1 << 63
)

// kinds are whether a socket is of datagrams.
func kinds() []bool {
	return []bool{false, true}
}

// strangeEnds are numbers that are no end's.
func strangeEnds() []int {
	return []int{least, least + 1, -1 << 32, -3, -2, -1, 2, 3, 4, 255, 256, 257, 1 << 16, 1 << 32, 1<<32 + 1, most - 1, most}
}

// open makes a socket, which there must be.
func open(t *testing.T, datagram bool, room int) *Socket {
	t.Helper()
	s := New(datagram, room)
	if s == nil {
		t.Fatalf("New(%t, %d): nil", datagram, room)
	}
	return s
}

// status holds a status against the one that is right.
func status(t *testing.T, want, got api.Status) {
	t.Helper()
	if got != want {
		t.Errorf("%d; right is %d", got, want)
	}
}

// write writes a text, of which just so many bytes must come to the other end.
func write(t *testing.T, s *Socket, end int, text string, want int) {
	t.Helper()
	if got, status := s.Write(end, []byte(text)); got != want || status != api.OK {
		t.Errorf("Write(%d, %.20q): %d, %d; right is %d, 0", end, text, got, status, want)
	}
}

// noWrite writes a text that must be refused.
func noWrite(t *testing.T, s *Socket, end int, text string, want api.Status) {
	t.Helper()
	if got, status := s.Write(end, []byte(text)); got != 0 || status != want {
		t.Errorf("Write(%d, %.20q): %d, %d; right is 0, %d", end, text, got, status, want)
	}
}

// peek looks at bytes, which must be just these.
func peek(t *testing.T, s *Socket, end, n int, want string) {
	t.Helper()
	if got, status := s.Read(end, n, true); string(got) != want || status != api.OK {
		t.Errorf("Read(%d, %d, true): %.20q, %d; right is %.20q, 0", end, n, got, status, want)
	}
}

// read looks at bytes twice and then takes them out; they must be just these.
func read(t *testing.T, s *Socket, end, n int, want string) {
	t.Helper()
	peek(t, s, end, n, want)
	peek(t, s, end, n, want)
	if got, status := s.Read(end, n, false); string(got) != want || status != api.OK {
		t.Errorf("Read(%d, %d, false): %.20q, %d; right is %.20q, 0", end, n, got, status, want)
	}
}

// noRead reads where nothing may be told but the status.
func noRead(t *testing.T, s *Socket, end, n int, want api.Status) {
	t.Helper()
	for _, peek := range []bool{true, false} {
		if got, status := s.Read(end, n, peek); len(got) != 0 || status != want {
			t.Errorf("Read(%d, %d, %t): %.20q, %d; right is nothing, %d", end, n, peek, got, status, want)
		}
	}
}

// waits holds how many bytes and pieces wait at an end against what is right.
func waits(t *testing.T, s *Socket, end, bytes, pieces int) {
	t.Helper()
	if n, p := s.Len(end), s.Pieces(end); n != bytes || p != pieces {
		t.Errorf("end %d: %d bytes, %d pieces; right is %d, %d", end, n, p, bytes, pieces)
	}
}

// shows holds the signals of both ends against those that are right, as text.
func shows(t *testing.T, s *Socket, first, second string) {
	t.Helper()
	if a, b := s.Shows(0).Text(), s.Shows(1).Text(); a != first || b != second {
		t.Errorf("Shows: %s, %s; right is %s, %s", a, b, first, second)
	}
}

// none holds what is told of an end that is closed, or is none, against what is right: nothing.
func none(t *testing.T, s *Socket, end int) {
	t.Helper()
	waits(t, s, end, 0, 0)
	if s.Open(end) || s.Shows(end) != 0 {
		t.Errorf("end %d: %t, %d", end, s.Open(end), s.Shows(end))
	}
}

// refused asks all that has a status of an end, which is closed, or is none, and must be told this, whatever else is wrong.
func refused(t *testing.T, s *Socket, end int, want api.Status) {
	t.Helper()
	for _, text := range []string{"", "x", "long", strings.Repeat("x", 1<<20+1)} {
		noWrite(t, s, end, text, want)
	}
	for _, n := range []int{least, -1, 0, 1, most} {
		noRead(t, s, end, n, want)
	}
	for _, write := range []bool{false, true} {
		for _, read := range []bool{false, true} {
			status(t, want, s.Shut(end, write, read))
		}
	}
	status(t, want, s.Close(end))
	none(t, s, end)
}

// The chapter's examples.
func TestExamples(t *testing.T) {
	s := open(t, false, 4)
	write(t, s, 0, "abcdef", 4)
	if b, status := s.Read(1, 3, true); string(b) != "abc" || status != api.OK {
		t.Errorf("Read: %q, %d", b, status)
	}
	if b, status := s.Read(1, 3, false); string(b) != "abc" || status != api.OK {
		t.Errorf("Read: %q, %d", b, status)
	}
	if b, status := s.Read(1, 9, false); string(b) != "d" || status != api.OK {
		t.Errorf("Read: %q, %d", b, status)
	}
	s = open(t, true, 4)
	write(t, s, 0, "abc", 3)
	if b, status := s.Read(1, 2, false); string(b) != "ab" || status != api.OK {
		t.Errorf("Read: %q, %d", b, status)
	}
	noRead(t, s, 1, 2, api.ErrShouldWait)
}

// P12.1: which sockets there are, and how they begin.
func TestNew(t *testing.T) {
	for _, datagram := range kinds() {
		for _, room := range []int{least, least + 1, -1 << 32, -1 << 20, -2, -1, 0, 1<<20 + 1, 1<<20 + 2, 1 << 21, 1 << 32, 1<<32 + 1, most - 1, most} {
			if New(datagram, room) != nil {
				t.Errorf("New(%t, %d): a socket", datagram, room)
			}
		}
		for _, room := range []int{1, 2, 3, 1000, 1 << 16, 1<<20 - 1, 1 << 20} {
			s := open(t, datagram, room)
			for end := range 2 {
				if !s.Open(end) {
					t.Errorf("New(%t, %d): end %d is not open", datagram, room, end)
				}
				waits(t, s, end, 0, 0)
				noRead(t, s, end, 9, api.ErrShouldWait)
				noRead(t, s, end, 0, api.ErrShouldWait)
			}
			shows(t, s, "w", "w")
			if s.Shows(0) != signal.First(api.Socket) {
				t.Errorf("Shows(0): %d", s.Shows(0))
			}
			write(t, s, 0, "a", 1)
			write(t, s, 1, "b", 1)
			status(t, api.OK, s.Close(0))
			status(t, api.OK, s.Close(1))
		}
	}
}

// P12.1: two sockets have nothing in common.
func TestTwoSockets(t *testing.T) {
	for _, datagram := range kinds() {
		a, b := open(t, datagram, 1), open(t, datagram, 1)
		write(t, a, 0, "a", 1)
		waits(t, b, 1, 0, 0)
		status(t, api.OK, b.Shut(1, true, true))
		write(t, a, 1, "b", 1)
		status(t, api.OK, b.Close(0))
		shows(t, a, "r", "r")
		read(t, a, 1, 1, "a")
	}
}

// P12.1: of what is no end nothing is told, whatever else is wrong, and nothing is done.
func TestStrangeEnds(t *testing.T) {
	for _, datagram := range kinds() {
		s := open(t, datagram, 4)
		write(t, s, 0, "ab", 2)
		write(t, s, 1, "c", 1)
		for _, end := range strangeEnds() {
			refused(t, s, end, api.ErrInvalidArgs)
		}
		shows(t, s, "rw", "rw")
		write(t, s, 0, "d", 1)
		read(t, s, 1, 1, "a")
		read(t, s, 0, 9, "c")
		status(t, api.OK, s.Close(1))
		for _, end := range strangeEnds() {
			refused(t, s, end, api.ErrInvalidArgs)
		}
		status(t, api.OK, s.Close(0))
		for _, end := range strangeEnds() {
			refused(t, s, end, api.ErrInvalidArgs)
		}
	}
}

// P12.1, P12.4: of an end that is closed, whatever else is wrong; its bytes are gone, the other one's stay.
func TestClosedEnds(t *testing.T) {
	for _, datagram := range kinds() {
		for end := range 2 {
			s := open(t, datagram, 4)
			write(t, s, end, "to", 2)
			write(t, s, 1-end, "fro", 3)
			status(t, api.OK, s.Close(end))
			for range 2 {
				refused(t, s, end, api.ErrPeerClosed)
			}
			if !s.Open(1-end) || s.Shows(1-end).Text() != "rp" {
				t.Errorf("end %d: %t, %s", 1-end, s.Open(1-end), s.Shows(1-end).Text())
			}
			read(t, s, 1-end, 9, "to")
			noRead(t, s, 1-end, 9, api.ErrPeerClosed)
			if s.Shows(1-end) != signal.PeerClosed {
				t.Errorf("end %d: %d", 1-end, s.Shows(1-end))
			}
			status(t, api.OK, s.Close(1-end))
			refused(t, s, end, api.ErrPeerClosed)
			refused(t, s, 1-end, api.ErrPeerClosed)
		}
	}
}

// P12.2, P12.3: bytes of a stream come behind each other, and each end's are its own.
func TestStream(t *testing.T) {
	s := open(t, false, 8)
	write(t, s, 0, "abc", 3)
	write(t, s, 1, "xy", 2)
	write(t, s, 0, "d", 1)
	waits(t, s, 1, 4, 0)
	waits(t, s, 0, 2, 0)
	peek(t, s, 1, 1, "a")
	peek(t, s, 1, 4, "abcd")
	peek(t, s, 1, 5, "abcd")
	peek(t, s, 1, most, "abcd")
	read(t, s, 1, 2, "ab")
	waits(t, s, 1, 2, 0)
	write(t, s, 0, "efg", 3)
	read(t, s, 1, 3, "cde")
	read(t, s, 1, most, "fg")
	noRead(t, s, 1, 1, api.ErrShouldWait)
	read(t, s, 0, 1, "x")
	read(t, s, 0, 1, "y")
	noRead(t, s, 0, most, api.ErrShouldWait)
	waits(t, s, 0, 0, 0)
	waits(t, s, 1, 0, 0)
}

// P12.3: no bytes are told where none are asked for, and none of a stream are taken out by that; it must not be empty all the same.
func TestReadNoneOfStream(t *testing.T) {
	s := open(t, false, 4)
	noRead(t, s, 1, 0, api.ErrShouldWait)
	write(t, s, 0, "ab", 2)
	read(t, s, 1, 0, "")
	read(t, s, 1, 0, "")
	waits(t, s, 1, 2, 0)
	read(t, s, 1, 2, "ab")
	noRead(t, s, 1, 0, api.ErrShouldWait)
}

// P12.2: no bytes are written to a stream where it is OK, be there room or not.
func TestWriteNoneToStream(t *testing.T) {
	s := open(t, false, 1)
	write(t, s, 0, "", 0)
	waits(t, s, 1, 0, 0)
	shows(t, s, "w", "w")
	noRead(t, s, 1, 1, api.ErrShouldWait)
	write(t, s, 0, "a", 1)
	write(t, s, 0, "", 0)
	if n, status := s.Write(0, nil); n != 0 || status != api.OK {
		t.Errorf("Write(0, nil): %d, %d", n, status)
	}
	read(t, s, 1, 9, "a")
}

// P12.2: of each stream just so many bytes have room, whatever was there ahead of them.
func TestStreamRoom(t *testing.T) {
	const text = "abcdefghij"
	for room := 1; room <= 8; room++ {
		for had := range room + 1 {
			for n := 1; n <= len(text); n++ {
				s := open(t, false, room)
				write(t, s, 1, text[:had], had)
				if had == room {
					shows(t, s, "rw", "-")
					noWrite(t, s, 1, text[:n], api.ErrShouldWait)
				} else {
					write(t, s, 1, text[:n], min(n, room-had))
				}
				waits(t, s, 0, min(had+n, room), 0)
				peek(t, s, 0, 99, (text[:had] + text[:n])[:min(had+n, room)])
				// The other way there is still room.
				write(t, s, 0, text, room)
				noWrite(t, s, 0, "x", api.ErrShouldWait)
				read(t, s, 1, 99, text[:room])
			}
		}
	}
}

// P12.2: a stream that is full has room for just as many bytes as are read.
func TestStreamRoomAgain(t *testing.T) {
	s := open(t, false, 3)
	write(t, s, 0, "0120", 3)
	for i := range 1000 {
		noWrite(t, s, 0, "x", api.ErrShouldWait)
		shows(t, s, "-", "rw")
		read(t, s, 1, 1, strconv.Itoa(i%3))
		shows(t, s, "w", "rw")
		write(t, s, 0, strconv.Itoa(i%3)+"x", 1)
	}
	read(t, s, 1, 3, "120")
	shows(t, s, "w", "w")
	write(t, s, 0, "long", 3)
}

// P12.2, P12.3: each piece of datagrams is told by itself, and what is not asked for of it is gone.
func TestDatagrams(t *testing.T) {
	s := open(t, true, 12)
	write(t, s, 0, "abc", 3)
	write(t, s, 1, "xy", 2)
	write(t, s, 0, "d", 1)
	write(t, s, 0, "efgh", 4)
	waits(t, s, 1, 8, 3)
	waits(t, s, 0, 2, 1)
	peek(t, s, 1, 0, "")
	peek(t, s, 1, 2, "ab")
	peek(t, s, 1, 3, "abc")
	peek(t, s, 1, 4, "abc")
	peek(t, s, 1, most, "abc")
	waits(t, s, 1, 8, 3)
	read(t, s, 1, 2, "ab")
	waits(t, s, 1, 5, 2)
	read(t, s, 1, 2, "d")
	waits(t, s, 1, 4, 1)
	write(t, s, 0, "ij", 2)
	waits(t, s, 1, 6, 2)
	read(t, s, 1, 0, "")
	waits(t, s, 1, 2, 1)
	read(t, s, 1, most, "ij")
	waits(t, s, 1, 0, 0)
	noRead(t, s, 1, 0, api.ErrShouldWait)
	noRead(t, s, 1, 1, api.ErrShouldWait)
	read(t, s, 0, 1, "x")
	noRead(t, s, 0, 1, api.ErrShouldWait)
}

// P12.2: a piece comes whole or not at all, and in this order what is wrong is told.
func TestDatagramRoom(t *testing.T) {
	const text = "abcdefghij"
	for room := 1; room <= 8; room++ {
		for had := range room + 1 {
			for n := 0; n <= len(text); n++ {
				s := open(t, true, room)
				for i := range had {
					write(t, s, 1, text[i:i+1], 1)
				}
				pieces, bytes := had, had
				switch {
				case n == 0:
					noWrite(t, s, 1, "", api.ErrInvalidArgs)
				case n > room:
					noWrite(t, s, 1, text[:n], api.ErrOutOfRange)
				case n > room-had:
					noWrite(t, s, 1, text[:n], api.ErrShouldWait)
				default:
					write(t, s, 1, text[:n], n)
					pieces, bytes = had+1, had+n
				}
				waits(t, s, 0, bytes, pieces)
				// The other way there is still room.
				write(t, s, 0, text[:room], room)
				for i := range had {
					read(t, s, 0, 9, text[i:i+1])
				}
				if pieces > had {
					read(t, s, 0, n, text[:n])
				}
				waits(t, s, 0, 0, 0)
			}
		}
	}
}

// P12.2: nil is no bytes, too.
func TestWriteNil(t *testing.T) {
	s := open(t, true, 4)
	if n, status := s.Write(0, nil); n != 0 || status != api.ErrInvalidArgs {
		t.Errorf("Write(0, nil): %d, %d", n, status)
	}
	waits(t, s, 1, 0, 0)
}

// P12.2: what is cut off a piece makes room, too.
func TestDatagramRoomAgain(t *testing.T) {
	s := open(t, true, 5)
	write(t, s, 0, "abc", 3)
	write(t, s, 0, "de", 2)
	for range 1000 {
		noWrite(t, s, 0, "fgh", api.ErrShouldWait)
		read(t, s, 1, 1, "a")
		noWrite(t, s, 0, "fghi", api.ErrShouldWait)
		write(t, s, 0, "abc", 3)
		shows(t, s, "-", "rw")
		read(t, s, 1, 1, "d")
		noWrite(t, s, 0, "fgh", api.ErrShouldWait)
		shows(t, s, "w", "rw")
		write(t, s, 0, "de", 2)
	}
	waits(t, s, 1, 5, 2)
}

// P12.2, P12.3: all bytes come as they are.
func TestAllBytes(t *testing.T) {
	all := make([]byte, 256)
	for i := range all {
		all[i] = byte(i)
	}
	for _, datagram := range kinds() {
		s := open(t, datagram, 256)
		write(t, s, 1, string(all), 256)
		read(t, s, 0, 256, string(all))
		for i := range all {
			write(t, s, 0, string(all[i:i+1]), 1)
			read(t, s, 1, 1, string(all[i:i+1]))
		}
	}
}

// P12.1, P12.2: as many bytes as ever may wait.
func TestMostRoom(t *testing.T) {
	const room = 1 << 20
	text := strings.Repeat("0123456789abcdef", room/16)
	s := open(t, false, room)
	write(t, s, 0, text+"x", room)
	noWrite(t, s, 0, "x", api.ErrShouldWait)
	shows(t, s, "-", "rw")
	read(t, s, 1, room, text)
	write(t, s, 0, text[1:], room-1)
	write(t, s, 0, "xy", 1)
	read(t, s, 1, room+1, text[1:]+"x")

	s = open(t, true, room)
	noWrite(t, s, 0, text+"x", api.ErrOutOfRange)
	write(t, s, 0, text, room)
	noWrite(t, s, 0, "x", api.ErrShouldWait)
	waits(t, s, 1, room, 1)
	read(t, s, 1, room, text)
	for range room {
		if _, got := s.Write(0, []byte{7}); got != api.OK {
			t.Fatalf("Write: %d", got)
		}
	}
	noWrite(t, s, 0, "x", api.ErrShouldWait)
	waits(t, s, 1, room, room)
	for range room {
		if b, got := s.Read(1, 1, false); got != api.OK || len(b) != 1 || b[0] != 7 {
			t.Fatalf("Read: %q, %d", b, got)
		}
	}
	waits(t, s, 1, 0, 0)
}

// P12.1 to P12.3: many bytes that wait are gone through one by one in a time that does not grow with them.
func TestManySteps(t *testing.T) {
	const room = 1 << 20
	for _, datagram := range kinds() {
		s := open(t, datagram, room)
		for range room / 4 {
			s.Write(0, []byte("abcd"))
		}
		for i := range room {
			b, got := s.Read(1, 1, false)
			if got != api.OK || len(b) != 1 {
				t.Fatalf("Read %d: %q, %d", i, b, got)
			}
			if n, got := s.Write(0, []byte("e")); n != 1 || got != api.OK {
				t.Fatalf("Write %d: %d, %d", i, n, got)
			}
		}
		read(t, s, 1, 1, "e")
	}
}

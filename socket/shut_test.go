package socket

import (
	"testing"

	"jacinth/api"
	"jacinth/signal"
)

// shut shuts an end, where that must be OK.
func shut(t *testing.T, s *Socket, end int, write, read bool) {
	t.Helper()
	if got := s.Shut(end, write, read); got != api.OK {
		t.Errorf("Shut(%d, %t, %t): %d", end, write, read, got)
	}
}

// bits are four bools: what is set of a number's lowest bits.
func bits(n int) (bits [4]bool) {
	for i := range bits {
		bits[i] = n>>i&1 == 1
	}
	return bits
}

// letters are the texts of the signals that are right.
func letters(readable, writable bool) string {
	text := ""
	if readable {
		text += "r"
	}
	if writable {
		text += "w"
	}
	if text == "" {
		text = "-"
	}
	return text
}

// P12.2 to P12.4: whatever is shut of both ends, just that way is shut; what waits stays, and is read.
func TestShut(t *testing.T) {
	for _, datagram := range kinds() {
		for set := range 16 {
			b := bits(set)
			s := open(t, datagram, 4)
			write(t, s, 0, "ab", 2)
			write(t, s, 1, "cde", 3)
			shut(t, s, 0, b[0], b[1])
			shut(t, s, 1, b[2], b[3])
			// Whether bytes may still come from 0 to 1, and from 1 to 0.
			there, back := !b[0] && !b[3], !b[2] && !b[1]
			shows(t, s, letters(true, there), letters(true, back))
			tryWay(t, s, 0, "ab", there)
			tryWay(t, s, 1, "cde", back)
			shows(t, s, letters(back, there), letters(there, back))
			if t.Failed() {
				t.Fatalf("datagram %t, shut %v", datagram, b)
			}
		}
	}
}

// tryWay reads what the end wrote and writes more, of which one byte comes to stay, if this way is open.
func tryWay(t *testing.T, s *Socket, end int, wrote string, open bool) {
	t.Helper()
	read(t, s, 1-end, 9, wrote)
	if open {
		noRead(t, s, 1-end, 9, api.ErrShouldWait)
		write(t, s, end, "x", 1)
		read(t, s, 1-end, 9, "x")
		noRead(t, s, 1-end, 0, api.ErrShouldWait)
		write(t, s, end, "y", 1)
		return
	}
	for _, text := range []string{"", "x", "full", "long."} {
		noWrite(t, s, end, text, api.ErrBadState)
	}
	noRead(t, s, 1-end, 9, api.ErrBadState)
	noRead(t, s, 1-end, 0, api.ErrBadState)
	noRead(t, s, 1-end, -1, api.ErrInvalidArgs)
	waits(t, s, 1-end, 0, 0)
}

// P12.4: what is shut stays shut, and what is shut later is shut, too.
func TestShutForGood(t *testing.T) {
	for _, datagram := range kinds() {
		s := open(t, datagram, 4)
		shut(t, s, 0, false, false)
		shows(t, s, "w", "w")
		shut(t, s, 0, true, false)
		shows(t, s, "-", "w")
		shut(t, s, 0, false, false)
		shut(t, s, 1, false, false)
		shows(t, s, "-", "w")
		shut(t, s, 0, false, true)
		shows(t, s, "-", "-")
		noWrite(t, s, 0, "x", api.ErrBadState)
		noWrite(t, s, 1, "x", api.ErrBadState)
		shut(t, s, 0, true, true)
		shut(t, s, 0, false, false)
		shows(t, s, "-", "-")
		noRead(t, s, 0, 1, api.ErrBadState)
		noRead(t, s, 1, 1, api.ErrBadState)
	}
}

// P12.4: each of the two is for good by itself.
func TestShutOneThenOther(t *testing.T) {
	for end := range 2 {
		for _, first := range []bool{false, true} {
			s := open(t, false, 4)
			shut(t, s, end, first, !first)
			shut(t, s, end, !first, first)
			noWrite(t, s, end, "x", api.ErrBadState)
			noWrite(t, s, 1-end, "x", api.ErrBadState)
			noRead(t, s, end, 1, api.ErrBadState)
			noRead(t, s, 1-end, 1, api.ErrBadState)
			if !s.Open(0) || !s.Open(1) {
				t.Errorf("shut is not closed")
			}
		}
	}
}

// P12.2: closed is told ahead of shut, and shut ahead of all that is wrong with the bytes, or of what has no room.
func TestWriteErrors(t *testing.T) {
	for _, datagram := range kinds() {
		for _, way := range []func(s *Socket){
			func(s *Socket) { shut(t, s, 0, true, false) },
			func(s *Socket) { shut(t, s, 1, false, true) },
		} {
			s := open(t, datagram, 2)
			write(t, s, 0, "ab", 2)
			way(s)
			for _, text := range []string{"", "c", "cd", "cde"} {
				noWrite(t, s, 0, text, api.ErrBadState)
			}
			peek(t, s, 1, 9, "ab")
			status(t, api.OK, s.Close(1))
			for _, text := range []string{"", "c", "cd", "cde"} {
				noWrite(t, s, 0, text, api.ErrPeerClosed)
			}
			shows(t, s, "p", "-")
		}
		s := open(t, datagram, 2)
		status(t, api.OK, s.Close(1))
		for _, text := range []string{"", "c", "cd", "cde"} {
			noWrite(t, s, 0, text, api.ErrPeerClosed)
		}
	}
}

// P12.3: a number below 0 is told ahead of all else; what waits is read even if it is shut or closed; then closed is told ahead of shut.
func TestReadErrors(t *testing.T) {
	for _, datagram := range kinds() {
		for _, way := range []func(s *Socket){
			func(s *Socket) { shut(t, s, 0, false, true) },
			func(s *Socket) { shut(t, s, 1, true, false) },
			func(s *Socket) {},
		} {
			s := open(t, datagram, 4)
			way(s)
			below(t, s)
			status(t, api.OK, s.Close(1))
			below(t, s)
			noRead(t, s, 0, 0, api.ErrPeerClosed)
			noRead(t, s, 0, most, api.ErrPeerClosed)

			s = open(t, datagram, 4)
			write(t, s, 1, "ab", 2)
			way(s)
			below(t, s)
			peek(t, s, 0, 9, "ab")
			status(t, api.OK, s.Close(1))
			below(t, s)
			read(t, s, 0, 9, "ab")
			noRead(t, s, 0, 9, api.ErrPeerClosed)
		}
	}
}

// below reads numbers of bytes below 0.
func below(t *testing.T, s *Socket) {
	t.Helper()
	for _, n := range []int{-1, -2, -1 << 32, least + 1, least} {
		noRead(t, s, 0, n, api.ErrInvalidArgs)
	}
}

// P12.4: what an end is shut for says nothing of the other way.
func TestOtherWay(t *testing.T) {
	for _, datagram := range kinds() {
		for end := range 2 {
			s := open(t, datagram, 4)
			shut(t, s, end, true, false)
			write(t, s, 1-end, "ab", 2)
			read(t, s, end, 9, "ab")
			noRead(t, s, end, 9, api.ErrShouldWait)
			noRead(t, s, 1-end, 9, api.ErrBadState)

			s = open(t, datagram, 4)
			shut(t, s, end, false, true)
			write(t, s, end, "ab", 2)
			read(t, s, 1-end, 9, "ab")
			noRead(t, s, 1-end, 9, api.ErrShouldWait)
			noRead(t, s, end, 9, api.ErrBadState)
		}
	}
}

// P12.4: an end whose other one is closed may be shut and closed all the same; what waits there stays till it is closed.
func TestLeftAlone(t *testing.T) {
	for _, datagram := range kinds() {
		for set := range 4 {
			b := bits(set)
			s := open(t, datagram, 4)
			write(t, s, 1, "abc", 3)
			write(t, s, 0, "d", 1)
			shut(t, s, 1, b[0], b[1])
			status(t, api.OK, s.Close(1))
			shut(t, s, 0, b[1], b[0])
			shows(t, s, "rp", "-")
			peek(t, s, 0, 2, "ab")
			if !s.Open(0) || s.Len(0) != 3 {
				t.Errorf("end 0: %t, %d", s.Open(0), s.Len(0))
			}
			status(t, api.OK, s.Close(0))
			none(t, s, 0)
			none(t, s, 1)
		}
	}
}

// P12.4: what both ends show, whatever waits there: Writable hangs on one byte of room, Readable on one byte.
func TestShows(t *testing.T) {
	for _, datagram := range kinds() {
		for room := 1; room <= 4; room++ {
			for a := range room + 1 {
				for b := range room + 1 {
					s := open(t, datagram, room)
					fill(t, s, 0, a)
					fill(t, s, 1, b)
					shows(t, s, letters(b > 0, a < room), letters(a > 0, b < room))
					status(t, api.OK, s.Close(0))
					want := signal.PeerClosed
					if a > 0 {
						want |= signal.Readable
					}
					if s.Shows(0) != 0 || s.Shows(1) != want {
						t.Errorf("Shows: %d, %d; right is 0, %d", s.Shows(0), s.Shows(1), want)
					}
				}
			}
		}
	}
}

// fill writes so many bytes at once, if they are any.
func fill(t *testing.T, s *Socket, end, n int) {
	t.Helper()
	if n > 0 {
		write(t, s, end, "abcdefgh"[:n], n)
	}
}

// spoil changes bytes, with all their spare room.
func spoil(b []byte) {
	b = b[:cap(b)]
	for i := range b {
		b[i] = '!'
	}
}

// P12.5: what is handed in is not changed, and not kept.
func TestHandedIn(t *testing.T) {
	for _, datagram := range kinds() {
		for n := range 5 {
			mine := []byte("abcdef")
			s := open(t, datagram, 8)
			s.Write(0, mine[1:1+n])
			write(t, s, 0, "more", 4)
			if string(mine) != "abcdef" {
				t.Errorf("what was handed in is %q", mine)
			}
			spoil(mine)
			if datagram && n > 0 {
				read(t, s, 1, 9, "bcde"[:n])
				read(t, s, 1, 9, "more")
			} else {
				read(t, s, 1, 9, "bcde"[:n]+"more")
			}
		}
	}
}

// P12.5: what has no room is not kept, and not changed.
func TestHandedInPart(t *testing.T) {
	mine := []byte("abcdef")
	s := open(t, false, 4)
	if n, got := s.Write(0, mine); n != 4 || got != api.OK {
		t.Errorf("Write: %d, %d", n, got)
	}
	read(t, s, 1, 2, "ab")
	write(t, s, 0, "xyz", 2)
	if string(mine) != "abcdef" {
		t.Errorf("what was handed in is %q", mine)
	}
	spoil(mine)
	read(t, s, 1, 9, "cdxy")
}

// P12.5: what is told is new memory, its spare room too.
func TestTold(t *testing.T) {
	for _, datagram := range kinds() {
		for n := range 5 {
			for _, look := range []bool{true, false} {
				s := open(t, datagram, 12)
				write(t, s, 0, "abcd", 4)
				write(t, s, 0, "efgh", 4)
				first, _ := s.Read(1, n, true)
				told, _ := s.Read(1, n, look)
				spoil(told)
				if string(first) != "abcd"[:n] {
					t.Errorf("what was told is %q", first)
				}
				spoil(first)
				write(t, s, 0, "ij", 2)
				switch {
				case look && datagram:
					read(t, s, 1, 9, "abcd")
					read(t, s, 1, 9, "efgh")
					read(t, s, 1, 9, "ij")
				case datagram:
					read(t, s, 1, 9, "efgh")
					read(t, s, 1, 9, "ij")
				case look:
					read(t, s, 1, 12, "abcdefghij")
				default:
					read(t, s, 1, 12, "abcdefghij"[n:])
				}
			}
		}
	}
}

// P12.5: what was told stays as it is, whatever is written and read behind it.
func TestToldStays(t *testing.T) {
	for _, datagram := range kinds() {
		s := open(t, datagram, 4)
		write(t, s, 0, "abcd", 4)
		looked, _ := s.Read(1, 4, true)
		taken, _ := s.Read(1, 4, false)
		write(t, s, 0, "efgh", 4)
		read(t, s, 1, 1, "e")
		status(t, api.OK, s.Close(1))
		if string(looked) != "abcd" || string(taken) != "abcd" {
			t.Errorf("what was told is %q, %q", looked, taken)
		}
	}
}

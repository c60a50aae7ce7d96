package signal

import (
	"strings"
	"testing"

	"jacinth/api"
)

const (
	most  = 1<<63 - 1
	least = -1 << 63
)

// all are the bits that are signals.
const all = 63 | 0xff00

// bit is one of the signals, with its number and its name as the chapter has them.
type bit struct {
	signal Set
	number int
	name   string
}

// bitTable tells all signals, from the lowest on.
func bitTable() []bit {
	return []bit{
		{Readable, 1, "r"},
		{Writable, 2, "w"},
		{PeerClosed, 4, "p"},
		{Signaled, 8, "s"},
		{Terminated, 16, "t"},
		{ZeroChildren, 32, "z"},
		{User(0), 256, "0"},
		{User(1), 512, "1"},
		{User(2), 1024, "2"},
		{User(3), 2048, "3"},
		{User(4), 4096, "4"},
		{User(5), 8192, "5"},
		{User(6), 16384, "6"},
		{User(7), 32768, "7"},
	}
}

// row is what the chapter says of one type.
type row struct {
	kind            int
	of, mine, first Set
}

// rowTable tells the rows of all types.
func rowTable() []row {
	const own = 0xff00
	return []row{
		{api.Job, 16 | own, own, 0},
		{api.Process, 16 | own, own, 0},
		{api.Thread, 16 | own, own, 0},
		{api.Channel, 7 | own, own, 2},
		{api.Socket, 7 | own, own, 2},
		{api.Fifo, 7 | own, own, 2},
		{api.Event, 8 | own, 8 | own, 0},
		{api.EventPair, 12 | own, 8 | own, 0},
		{api.Port, 1 | own, 0, 0},
		{api.Timer, 8 | own, own, 0},
		{api.Vmo, 32 | own, own, 32},
	}
}

// outsideKinds are numbers that are no type's.
func outsideKinds() []int {
	return []int{least, least + 1, -1 << 32, -256, -12, -11, -7, -1, 0, 12, 13, 16, 255, 256, 257, 1 << 16, 1<<32 + 7, most - 1, most}
}

// strange are sets with bits that are no signals, and some without.
func strange() []Set {
	return []Set{
		least, least + 8, -1 << 32, -65537, -65536, -65535, -257, -256, -2, -1,
		64, 128, 192, 64 + 8, 255, 1 << 16, 1<<16 + 256, 1<<16 + 8, 1 << 31, 1 << 32, 1<<32 + 8, 1 << 62, most - 1, most,
		0, 1, 2, 4, 7, 8, 12, 16, 32, 63, 256, 32768, 0xff00, 0xff00 | 8, 0xff00 | 12, 0xff00 | 1, all,
	}
}

// The chapter's examples.
func TestExamples(t *testing.T) {
	changes(t, 0, api.Event, 0, Signaled, Signaled, api.OK)
	changes(t, 0, api.Channel, 0, Readable, 0, api.ErrInvalidArgs)
	if text := Set(1 + 2 + 256).Text(); text != "rw0" {
		t.Errorf("Text: %s", text)
	}
}

// changes holds a Change against what is right.
func changes(t *testing.T, s Set, kind int, clear, set, right Set, status api.Status) {
	t.Helper()
	if got, st := s.Change(kind, clear, set); got != right || st != status {
		t.Errorf("Change of %d, kind %d, by %d and %d: %d, %d; right is %d, %d", s, kind, clear, set, got, st, right, status)
	}
}

// The numbers of the signals; P5.1: those of the user's own.
func TestNumbers(t *testing.T) {
	for _, b := range bitTable() {
		if int(b.signal) != b.number {
			t.Errorf("%s is %d; right is %d", b.name, b.signal, b.number)
		}
	}
	for _, i := range []int{least, least + 1, -1 << 32, -64, -8, -2, -1, 8, 9, 16, 55, 56, 63, 64, 256, 1 << 32, most - 8, most} {
		if User(i) != 0 {
			t.Errorf("User(%d): %d", i, User(i))
		}
	}
}

// P5.1: the signals of each type, those that users may change, and what is shown first.
func TestKinds(t *testing.T) {
	for _, r := range rowTable() {
		if of, mine, first := Of(r.kind), Mine(r.kind), First(r.kind); of != r.of || mine != r.mine || first != r.first {
			t.Errorf("kind %d: Of %d, Mine %d, First %d; right is %d, %d, %d", r.kind, of, mine, first, r.of, r.mine, r.first)
		}
	}
	for _, kind := range outsideKinds() {
		if of, mine, first := Of(kind), Mine(kind), First(kind); of != 0 || mine != 0 || first != 0 {
			t.Errorf("kind %d: Of %d, Mine %d, First %d", kind, of, mine, first)
		}
	}
}

// P5.2: a set is right just as far as the type's signals go.
func TestRight(t *testing.T) {
	for _, r := range rowTable() {
		for s := Set(-1 << 17); s < 1<<17; s++ {
			if right := s|r.of == r.of; s.Right(r.kind) != right {
				t.Fatalf("kind %d: Right of %d: %t", r.kind, s, s.Right(r.kind))
			}
		}
		for i := range 64 {
			if s := Set(1) << i; s.Right(r.kind) != (r.of>>i&1 == 1) {
				t.Errorf("kind %d: Right of bit %d: %t", r.kind, i, s.Right(r.kind))
			}
		}
	}
	if !(Signaled | PeerClosed | User(7)).Right(api.EventPair) || (Signaled | PeerClosed).Right(api.Event) || Set(64).Right(api.Channel) {
		t.Errorf("Right of an event, a pair or a channel")
	}
}

// P5.2: of no type, only the empty set is right, and only nothing may be changed.
func TestNoKind(t *testing.T) {
	for _, kind := range outsideKinds() {
		for _, s := range strange() {
			if s.Right(kind) != (s == 0) {
				t.Errorf("kind %d: Right of %d: %t", kind, s, s.Right(kind))
			}
			changes(t, s, kind, 0, 0, s, api.OK)
			if s != 0 {
				changes(t, 8, kind, s, 0, 0, api.ErrInvalidArgs)
				changes(t, 8, kind, 0, s, 0, api.ErrInvalidArgs)
			}
		}
	}
}

// P5.2: Change, by hand.
func TestChange(t *testing.T) {
	changes(t, Signaled|User(1), api.Event, Signaled, User(2), User(1)|User(2), api.OK)
	changes(t, 0, api.Event, Signaled|User(7), 0, 0, api.OK)
	// What is both cleared and set is set.
	changes(t, Signaled, api.Event, Signaled, Signaled, Signaled, api.OK)
	changes(t, 0, api.EventPair, User(3), User(3), User(3), api.OK)
	// What is shown besides stays, were it strange.
	changes(t, Readable|Writable|User(0), api.Channel, User(0), User(5), Readable|Writable|User(5), api.OK)
	changes(t, PeerClosed, api.EventPair, 0, Signaled, PeerClosed|Signaled, api.OK)
	changes(t, -1, api.Vmo, User(0), 0, ^User(0), api.OK)
	changes(t, 64|least, api.Timer, 0xff00, 0, 64|least, api.OK)
	// One of them alone is enough to be refused.
	changes(t, 0, api.Timer, 0, Signaled, 0, api.ErrInvalidArgs)
	changes(t, Signaled, api.Timer, Signaled, 0, 0, api.ErrInvalidArgs)
	changes(t, 0, api.EventPair, 0, PeerClosed, 0, api.ErrInvalidArgs)
	changes(t, PeerClosed, api.EventPair, PeerClosed, Signaled, 0, api.ErrInvalidArgs)
	changes(t, 0, api.Event, 0, Signaled|Readable, 0, api.ErrInvalidArgs)
	changes(t, 0, api.Port, 0, User(0), 0, api.ErrInvalidArgs)
	changes(t, User(0), api.Port, User(0), 0, 0, api.ErrInvalidArgs)
	changes(t, Readable, api.Port, 0, 0, Readable, api.OK)
	changes(t, 0, api.Job, Terminated, 0, 0, api.ErrInvalidArgs)
	changes(t, ZeroChildren, api.Vmo, ZeroChildren, 0, 0, api.ErrInvalidArgs)
	// Neither bit is there, but it is asked for.
	changes(t, 0, api.Event, 64, 0, 0, api.ErrInvalidArgs)
	changes(t, 0, api.Event, 0, 1<<16, 0, api.ErrInvalidArgs)
	changes(t, 0, api.Event, least, 0, 0, api.ErrInvalidArgs)
}

// P5.2: Change, of any sets, against what each of the 64 bits says.
func TestChangeBits(t *testing.T) {
	for _, r := range rowTable() {
		for _, clear := range strange() {
			for _, set := range strange() {
				for _, s := range strange() {
					right, status := changed(r.mine, s, clear, set)
					changes(t, s, r.kind, clear, set, right, status)
				}
			}
		}
	}
}

// changed tells what a Change is right to tell where users may change the bits of mine.
func changed(mine, s, clear, set Set) (Set, api.Status) {
	var right Set
	for i := range 64 {
		asked := (clear>>i|set>>i)&1 == 1
		if asked && mine>>i&1 == 0 {
			return 0, api.ErrInvalidArgs
		}
		if set>>i&1 == 1 || s>>i&1 == 1 && clear>>i&1 == 0 {
			right |= 1 << i
		}
	}
	return right, api.OK
}

// P5.2: Meets and Fires, of any sets, against what each of the 64 bits says.
func TestMeetsAndFires(t *testing.T) {
	for _, s := range strange() {
		for _, old := range strange() {
			for _, want := range strange() {
				var both Set
				now, before := false, false
				for i := range 64 {
					if want>>i&1 == 0 {
						continue
					}
					now = now || s>>i&1 == 1
					before = before || old>>i&1 == 1
					both |= s >> i & 1 << i
				}
				if s.Meets(want) != both {
					t.Errorf("%d Meets %d: %d; right is %d", s, want, s.Meets(want), both)
				}
				if s.Fires(old, want) != (now && !before) {
					t.Errorf("%d Fires, old %d, want %d: %t", s, old, want, s.Fires(old, want))
				}
			}
		}
	}
}

// P5.2: Fires, by hand.
func TestFires(t *testing.T) {
	rows := []struct {
		s, old, want Set
		right        bool
	}{
		{Signaled, 0, Signaled, true},
		{Signaled, Signaled, Signaled, false},
		{0, Signaled, Signaled, false},
		{0, 0, 0, false},
		{Signaled, 0, 0, false},
		{Signaled, PeerClosed, Signaled, true},
		// One of them was there already: another one that comes doesn't fire.
		{Readable | Writable, Writable, Readable | Writable, false},
		{Readable, Writable, Readable | Writable, false},
		{Readable | Writable, 0, Readable, true},
		{64, 0, 64, true},
		{least, 0, -1, true},
		{-1, least, -1, false},
	}
	for _, r := range rows {
		if got := r.s.Fires(r.old, r.want); got != r.right {
			t.Errorf("%d Fires, old %d, want %d: %t", r.s, r.old, r.want, got)
		}
	}
}

// textOf tells the text that is right for s.
func textOf(s Set) string {
	text := ""
	for _, b := range bitTable() {
		if s&Set(b.number) != 0 {
			text += b.name
		}
	}
	if text == "" {
		return "-"
	}
	return text
}

// P5.3: the texts of all sets, and of sets with other bits besides; each is parsed.
func TestTextAndParse(t *testing.T) {
	for s := range Set(1 << 16) {
		text := s.Text()
		if text != textOf(s) {
			t.Fatalf("Text of %d: %q; right is %q", s, text, textOf(s))
		}
		parses(t, text, s&all, api.OK)
	}
	for _, above := range []Set{1 << 16, 1 << 31, 1 << 32, 1 << 62, least, -1 << 16} {
		for _, s := range strange() {
			if got := (s | above).Text(); got != textOf(s) {
				t.Errorf("Text of %d: %q; right is %q", s|above, got, textOf(s))
			}
		}
	}
}

// P5.3: Text, by hand.
func TestText(t *testing.T) {
	rows := []struct {
		set  Set
		text string
	}{
		{0, "-"},
		{Readable, "r"},
		{ZeroChildren, "z"},
		{User(7), "7"},
		{User(0) | Terminated, "t0"},
		{all, "rwpstz01234567"},
		{-1, "rwpstz01234567"},
		{64, "-"},
		{128, "-"},
		{1 << 16, "-"},
		{least, "-"},
		{64 | 128 | Signaled, "s"},
	}
	for _, r := range rows {
		if got := r.set.Text(); got != r.text {
			t.Errorf("Text of %d: %q; right is %q", r.set, got, r.text)
		}
	}
}

// parses holds a Parse against what is right.
func parses(t *testing.T, text string, right Set, status api.Status) {
	t.Helper()
	if got, s := Parse(text); got != right || s != status {
		t.Errorf("Parse(%q): %d, %d; right is %d, %d", text, got, s, right, status)
	}
}

// P5.3: every text of at most four bytes, of those that matter and some that do not.
func TestParseShort(t *testing.T) {
	texts := make(map[string]Set)
	for s := range Set(1 << 16) {
		texts[textOf(s)] = s & all
	}
	var longer func(text string)
	longer = func(text string) {
		if s, ok := texts[text]; ok {
			parses(t, text, s, api.OK)
		} else {
			parses(t, text, 0, api.ErrInvalidArgs)
		}
		if len(text) == 4 {
			return
		}
		for _, b := range []byte("rwpstz01234567-R8 \x00\xc3\xff") {
			longer(text + string([]byte{b}))
		}
	}
	longer("")
}

// P5.3: texts that no set has.
func TestParseWrong(t *testing.T) {
	wrong := []string{
		"", " ", "--", "-r", "r-", "rr", "rwr", "wr", "0r", "10", "00", "77", "rwpstz01234576", "rwpstz012345677", "rwpstz01234567r",
		"rwpstz01234567-", "rwpstz012345678", "RW", "R", "rW", "x", "rx", "xr", "r w", " r", "r ", "r\n", "8", "9", "u", "к", "ｒ", "r\u0300",
		"\xff", "r\x00", "rкw",
		strings.Repeat("r", 1<<20), strings.Repeat("-", 1<<20), "rwpstz01234567" + strings.Repeat("7", 1<<20),
	}
	for _, text := range wrong {
		if got, s := Parse(text); got != 0 || s != api.ErrInvalidArgs {
			t.Errorf("Parse(%.20q): %d, %d", text, got, s)
		}
	}
	for b := range 256 {
		text := string([]byte{byte(b)})
		if !strings.Contains("rwpstz01234567-", text) {
			parses(t, text, 0, api.ErrInvalidArgs)
		}
	}
}

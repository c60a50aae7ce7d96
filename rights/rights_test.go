package rights

import (
	"slices"
	"strings"
	"testing"

	"jacinth/api"
)

const (
	most  = 1<<63 - 1
	least = -1 << 63
)

// bit is one of the rights, with its number and its letter as the chapter has them.
type bit struct {
	right  Rights
	number int
	letter string
}

// bitTable tells all bits, in their order.
func bitTable() []bit {
	return []bit{
		{Duplicate, 1, "D"},
		{Transfer, 2, "T"},
		{Read, 4, "R"},
		{Write, 8, "W"},
		{Signal, 16, "S"},
		{SignalPeer, 32, "P"},
		{Wait, 64, "A"},
		{Inspect, 128, "I"},
		{Map, 256, "M"},
		{Destroy, 512, "K"},
		{Manage, 1024, "G"},
		{Property, 2048, "Y"},
	}
}

// of tells the rights of letters, in whatever order.
func of(t *testing.T, text string) Rights {
	t.Helper()
	var r Rights
	for _, letter := range text {
		at := slices.IndexFunc(bitTable(), func(b bit) bool { return b.letter == string(letter) })
		if at < 0 {
			t.Fatalf("no right has the letter %q", letter)
		}
		r |= bitTable()[at].right
	}
	return r
}

// strange are numbers with bits besides those of All, and some without.
func strange() []Rights {
	return []Rights{
		least, least + 1, least + 4095, least + 4096, -1 << 32, -1 << 31, -4097, -4096, -4095, -2, -1,
		4096, 4097, 4098, 8191, 8192, 1 << 16, 1<<31 - 1, Same, Same + 1, Same + All, 1 << 32, 1<<32 + 1, 1<<32 + Same, 1 << 62,
		most - 4095, most - 1, most,
		0, Duplicate, Property, Read | Write, All - 1, All,
	}
}

// outsideKinds are numbers that are no type's.
func outsideKinds() []int {
	return []int{least, least + 1, -1 << 32, -256, -12, -11, -2, -1, 0, 12, 13, 16, 255, 256, 257, 1 << 16, 1<<32 + 1, most - 1, most}
}

// The chapter's examples.
func TestExamples(t *testing.T) {
	if text := Default(api.Event).Text(); text != "DTSAI" {
		t.Errorf("Default of Event: %s", text)
	}
	had := Duplicate | Transfer | Read | Write
	reduces(t, had, Read, Read, api.OK)
	reduces(t, had, Signal, 0, api.ErrInvalidArgs)
	reduces(t, had, Same, had, api.OK)
}

// reduces holds a Reduce against what is right.
func reduces(t *testing.T, r, want, right Rights, status api.Status) {
	t.Helper()
	if got, s := r.Reduce(want); got != right || s != status {
		t.Errorf("Reduce of %d to %d: %d, %d; right is %d, %d", r, want, got, s, right, status)
	}
}

// The numbers of the bits, of All and of Same.
func TestNumbers(t *testing.T) {
	sum := 0
	for _, b := range bitTable() {
		if int(b.right) != b.number {
			t.Errorf("%s is %d; right is %d", b.letter, b.right, b.number)
		}
		sum += b.number
	}
	if All != 4095 || sum != 4095 || Same != 1<<31 {
		t.Errorf("All %d, the sum %d, Same %d", All, sum, Same)
	}
}

// P4.1: each type's name and default rights.
func TestKinds(t *testing.T) {
	rows := []struct {
		kind         int
		name, rights string
	}{
		{api.Job, "job", "DTAIKGY"},
		{api.Process, "process", "DTRWAIKG"},
		{api.Thread, "thread", "DTAIKG"},
		{api.Channel, "channel", "DTRWSPAI"},
		{api.Socket, "socket", "DTRWSPAI"},
		{api.Fifo, "fifo", "DTRWSPAI"},
		{api.Event, "event", "DTSAI"},
		{api.EventPair, "eventpair", "DTSPAI"},
		{api.Port, "port", "DTRWAI"},
		{api.Timer, "timer", "DTWSAI"},
		{api.Vmo, "vmo", "DTRWSAIMY"},
	}
	var kinds []int
	for _, r := range rows {
		kinds = append(kinds, r.kind)
		if got := Default(r.kind); got != of(t, r.rights) || got.Text() != r.rights {
			t.Errorf("Default(%d): %s; right is %s", r.kind, got.Text(), r.rights)
		}
		if got := Name(r.kind); got != r.name {
			t.Errorf("Name(%d): %q; right is %q", r.kind, got, r.name)
		}
	}
	if got := Kinds(); !slices.Equal(got, kinds) || !slices.Equal(got, []int{1, 2, 3, 4, 5, 6, 7, 8, 9, 10, 11}) {
		t.Errorf("Kinds: %v", got)
	}
}

// P4.1: numbers that are no type's have no name and no rights.
func TestNoKinds(t *testing.T) {
	for _, kind := range outsideKinds() {
		if Default(kind) != 0 || Name(kind) != "" {
			t.Errorf("kind %d: %d, %q", kind, Default(kind), Name(kind))
		}
	}
}

// P4.1: the types are told in new memory, spare room too.
func TestKindsAreNewMemory(t *testing.T) {
	one, two := Kinds(), Kinds()
	whole := one[:cap(one)]
	for i := range whole {
		whole[i] = -5
	}
	want := []int{1, 2, 3, 4, 5, 6, 7, 8, 9, 10, 11}
	if three := Kinds(); !slices.Equal(two, want) || !slices.Equal(three, want) {
		t.Errorf("Kinds: %v, %v", two, three)
	}
}

// P4.2: rights are right just as far as All goes.
func TestRight(t *testing.T) {
	for r := Rights(-2 * 4096); r <= 3*4096; r++ {
		if right := r >= 0 && r <= 4095; r.Right() != right {
			t.Errorf("Right of %d: %t", r, r.Right())
		}
	}
	for _, r := range strange() {
		if right := r >= 0 && r <= 4095; r.Right() != right {
			t.Errorf("Right of %d: %t", r, r.Right())
		}
	}
	for i := range 64 {
		if r := Rights(1) << i; r.Right() != (i < 12) {
			t.Errorf("Right of bit %d: %t", i, r.Right())
		}
	}
}

// bitwise holds all that goes bit by bit, of any two numbers, against what each of the 64 bits says.
func bitwise(t *testing.T, r, o Rights) {
	t.Helper()
	has := true
	var meet, without Rights
	for i := range 64 {
		in, other := r>>i&1 == 1, o>>i&1 == 1
		if other && !in {
			has = false
		}
		if in && other {
			meet |= 1 << i
		}
		if in && !other {
			without |= 1 << i
		}
	}
	need := api.ErrAccessDenied
	if has {
		need = api.OK
	}
	if r.Has(o) != has || r.Need(o) != need {
		t.Errorf("%d, %d: Has %t, Need %d; right is %t, %d", r, o, r.Has(o), r.Need(o), has, need)
	}
	if r.Meet(o) != meet || r.Without(o) != without {
		t.Errorf("%d, %d: Meet %d, Without %d; right is %d, %d", r, o, r.Meet(o), r.Without(o), meet, without)
	}
}

// P4.2: Has, Need, Meet and Without, of any two numbers.
func TestBitwise(t *testing.T) {
	numbers := strange()
	for i := range 64 {
		numbers = append(numbers, 1<<i, ^(1 << i))
	}
	for _, r := range numbers {
		for _, o := range numbers {
			bitwise(t, r, o)
		}
	}
}

// P4.2: Has and Need, by hand.
func TestHasAndNeed(t *testing.T) {
	had := Read | Write | Signal
	for _, need := range []Rights{0, Read, Write | Signal, had} {
		if !had.Has(need) || had.Need(need) != api.OK {
			t.Errorf("%d: Has %t, Need %d", need, had.Has(need), had.Need(need))
		}
	}
	for _, need := range []Rights{Duplicate, Read | Duplicate, had | Property, All, Same, Read | Same, 4096, -1, least} {
		if had.Has(need) || had.Need(need) != api.ErrAccessDenied {
			t.Errorf("%d: Has %t, Need %d", need, had.Has(need), had.Need(need))
		}
	}
}

// P4.2 and P4.4: Reduce, of all rights to all rights.
func TestReduceRight(t *testing.T) {
	for r := Rights(0); r <= All; r++ {
		for want := Rights(0); want <= All; want++ {
			got, s := r.Reduce(want)
			if r|want == r && (got != want || s != api.OK) || r|want != r && (got != 0 || s != api.ErrInvalidArgs) {
				t.Fatalf("Reduce of %d to %d: %d, %d", r, want, got, s)
			}
		}
		reduces(t, r, Same, r, api.OK)
	}
}

// P4.2 and P4.4: Reduce, of any number to any number.
func TestReduceStrange(t *testing.T) {
	for _, r := range strange() {
		for _, want := range strange() {
			switch {
			case want == Same:
				reduces(t, r, want, r, api.OK)
			case want >= 0 && want <= 4095 && r|want == r:
				reduces(t, r, want, want, api.OK)
			default:
				reduces(t, r, want, 0, api.ErrInvalidArgs)
			}
			if got, _ := r.Reduce(want); got&^r != 0 {
				t.Errorf("Reduce of %d to %d has more: %d", r, want, got)
			}
		}
	}
	// Bits that are had, but are not right, can't be wanted by their names.
	reduces(t, 4096|Read, 4096|Read, 0, api.ErrInvalidArgs)
	reduces(t, -1, -1, 0, api.ErrInvalidArgs)
	reduces(t, Same|Read, Same|Read, 0, api.ErrInvalidArgs)
	// Same stands alone.
	reduces(t, All, Same|Read, 0, api.ErrInvalidArgs)
}

// P4.2 and P4.3: Count and Text tell of the bits of All alone, whatever others there are.
func TestCountAndText(t *testing.T) {
	for r := Rights(0); r <= All; r++ {
		text, count := "", 0
		for _, b := range bitTable() {
			if int(r)/b.number%2 == 1 {
				text += b.letter
				count++
			}
		}
		if count == 0 {
			text = "-"
		}
		for _, above := range []Rights{0, 4096, Same, 1 << 32, 1 << 62, least, -4096} {
			if with := r | above; with.Count() != count || with.Text() != text {
				t.Fatalf("%d: Count %d, Text %q; right is %d, %q", with, with.Count(), with.Text(), count, text)
			}
		}
	}
}

// P4.3: by hand.
func TestText(t *testing.T) {
	rows := []struct {
		rights Rights
		text   string
	}{
		{0, "-"},
		{Duplicate, "D"},
		{Property, "Y"},
		{Transfer | Duplicate, "DT"},
		{All, "DTRWSPAIMKGY"},
		{-1, "DTRWSPAIMKGY"},
		{Same, "-"},
		{4096, "-"},
		{least, "-"},
		{Same | Map | Read, "RM"},
	}
	for _, r := range rows {
		if got := r.rights.Text(); got != r.text {
			t.Errorf("Text of %d: %q; right is %q", r.rights, got, r.text)
		}
	}
}

// P4.3: the texts of all rights are parsed, and no others.
func TestParseAll(t *testing.T) {
	for r := Rights(0); r <= All; r++ {
		parses(t, r.Text(), r, api.OK)
	}
}

// parses holds a Parse against what is right.
func parses(t *testing.T, text string, right Rights, status api.Status) {
	t.Helper()
	if got, s := Parse(text); got != right || s != status {
		t.Errorf("Parse(%q): %d, %d; right is %d, %d", text, got, s, right, status)
	}
}

// P4.3: every text of at most four bytes, of those that matter and some that do not.
func TestParseShort(t *testing.T) {
	texts := make(map[string]Rights)
	for r := Rights(0); r <= All; r++ {
		texts[r.Text()] = r
	}
	var longer func(text string)
	longer = func(text string) {
		if r, ok := texts[text]; ok {
			parses(t, text, r, api.OK)
		} else {
			parses(t, text, 0, api.ErrInvalidArgs)
		}
		if len(text) == 4 {
			return
		}
		for _, b := range []byte("DTRWSPAIMKGY-dy \x00\xc3\xff") {
			longer(text + string([]byte{b}))
		}
	}
	longer("")
}

// P4.3: texts that no rights have.
func TestParseWrong(t *testing.T) {
	wrong := []string{
		"", " ", "--", "-D", "D-", "DD", "DTD", "TD", "YD", "YG", "DTRWSPAIMKYG", "DTRWSPAIMKGYY", "DTRWSPAIMKGYD", "DTRWSPAIMKGY-",
		"dtr", "d", "X", "DX", "XD", "D T", " D", "D ", "D\n", "0", "4095", "same", "Д", "Ｄ", "D\u0300", "\xff", "D\x00", "DЖT",
		strings.Repeat("D", 1<<20), strings.Repeat("-", 1<<20), "DTRWSPAIMKGY" + strings.Repeat("Y", 1<<20),
	}
	for _, text := range wrong {
		if got, s := Parse(text); got != 0 || s != api.ErrInvalidArgs {
			t.Errorf("Parse(%.20q): %d, %d", text, got, s)
		}
	}
	for b := range 256 {
		text := string([]byte{byte(b)})
		if !strings.Contains("DTRWSPAIMKGY-", text) {
			parses(t, text, 0, api.ErrInvalidArgs)
		}
	}
}

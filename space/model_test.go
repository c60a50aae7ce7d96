package space

import (
	"slices"
	"testing"

	"jacinth/api"
	"jacinth/region"
	"jacinth/vmo"
)

// model is a space as the chapter's words have it, slow and plain: its bytes are found one by one in the pieces.
type model struct {
	set    *vmo.Set
	mapped *region.Region
}

func (m *model) place(at, n, id, from, prot int) (int, api.Status) {
	info, ok := m.set.Info(id)
	switch {
	case !ok || info.Dropped:
		return 0, api.ErrNotFound
	case n < 0 || from < 0:
		return 0, api.ErrInvalidArgs
	case from > info.Size || n > info.Size-from:
		return 0, api.ErrOutOfRange
	}
	if at == -1 {
		var e api.Status
		at, e = m.mapped.Place(n)
		if e != api.OK {
			return 0, e
		}
	}
	if e := m.mapped.Put(piece(at, n, id, from, prot)); e != api.OK {
		return 0, e
	}
	return at, api.OK
}

// refused tells why n bytes from at on can't be asked for with a protection's bit, if they can't.
func (m *model) refused(at, n, bit int) api.Status {
	if n < 0 || n > api.MaxMessage || at < 0 {
		return api.ErrInvalidArgs
	}
	if at > m.mapped.Size() {
		return api.ErrNotFound
	}
	denied := false
	for i := range n {
		p, ok := m.mapped.Find(at + i)
		if !ok {
			return api.ErrNotFound
		}
		denied = denied || p.Prot != 3 && p.Prot != bit
	}
	if denied {
		return api.ErrAccessDenied
	}
	return api.OK
}

func (m *model) read(at, n int) (told []byte, e api.Status) {
	if e := m.refused(at, n, 1); e != api.OK {
		return nil, e
	}
	for i := range n {
		p, _ := m.mapped.Find(at + i)
		b, e := m.set.Read(p.Vmo, p.From+at+i-p.At, 1)
		if e != api.OK {
			return nil, e
		}
		told = append(told, b...)
	}
	return told, api.OK
}

func (m *model) write(at int, b []byte) (int, api.Status) {
	if e := m.refused(at, len(b), 2); e != api.OK {
		return 0, e
	}
	done := 0
	for done < len(b) {
		p, _ := m.mapped.Find(at + done)
		n := 0
		for done+n < len(b) && at+done+n < p.At+p.Len {
			n++
		}
		if e := m.set.Write(p.Vmo, p.From+at+done-p.At, b[done:done+n]); e != api.OK {
			return done, e
		}
		done += n
	}
	return done, api.OK
}

func (m *model) uses(id int) int {
	count := 0
	for _, p := range m.mapped.List() {
		if p.Vmo == id {
			count++
		}
	}
	return count
}

func (m *model) clear() []region.Piece {
	told := m.mapped.List()
	for _, p := range told {
		m.mapped.Cut(p.At, p.Len)
	}
	return told
}

// pair is a space and a model that are asked the same, each with a set of its own; what is done to one set is done to the other.
type pair struct {
	set   *vmo.Set
	s     *Space
	m     *model
	pages int
}

func newPair(frames, objects, pages, most int) *pair {
	set := vmo.New(frames, objects)
	twin := &model{set: vmo.New(frames, objects), mapped: region.New(pages*page, most)}
	return &pair{set: set, s: New(set, pages*page, most), m: twin, pages: pages}
}

func (p *pair) place(t *testing.T, at, n, id, from, prot int) {
	t.Helper()
	got, e := p.s.Map(at, n, id, from, prot)
	if want, right := p.m.place(at, n, id, from, prot); got != want || e != right {
		t.Fatalf("Map(%d, %d, %d, %d, %d): %d, %d; right is %d, %d", at, n, id, from, prot, got, e, want, right)
	}
}

func (p *pair) unmap(t *testing.T, at, n int) {
	t.Helper()
	got, e := p.s.Unmap(at, n)
	if want, right := p.m.mapped.Cut(at, n); !slices.Equal(got, want) || e != right {
		t.Fatalf("Unmap(%d, %d): %v, %d; right is %v, %d", at, n, got, e, want, right)
	}
}

func (p *pair) protect(t *testing.T, at, n, prot int) {
	t.Helper()
	if got, want := p.s.Protect(at, n, prot), p.m.mapped.Protect(at, n, prot); got != want {
		t.Fatalf("Protect(%d, %d, %d): %d; right is %d", at, n, prot, got, want)
	}
}

func (p *pair) clear(t *testing.T) {
	t.Helper()
	if got, want := p.s.Clear(), p.m.clear(); !slices.Equal(got, want) {
		t.Fatalf("Clear: %v; right is %v", got, want)
	}
}

func (p *pair) read(t *testing.T, at, n int) {
	t.Helper()
	got, e := p.s.Read(at, n)
	if want, right := p.m.read(at, n); !slices.Equal(got, want) || e != right {
		t.Fatalf("Read(%d, %d) of %v: %q, %d; right is %q, %d", at, n, p.s.Pieces(), got, e, want, right)
	}
}

func (p *pair) write(t *testing.T, at int, b []byte) {
	t.Helper()
	was := string(b)
	got, e := p.s.Write(at, b)
	if string(b) != was {
		t.Fatalf("Write(%d, ..) has changed what was handed in", at)
	}
	if want, right := p.m.write(at, b); got != want || e != right {
		t.Fatalf("Write(%d, %d bytes) to %v: %d, %d; right is %d, %d", at, len(b), p.s.Pieces(), got, e, want, right)
	}
}

// same holds all pieces, and all that there is of objects, against what is right.
func (p *pair) same(t *testing.T, objects int) {
	t.Helper()
	if got, want := p.s.Pieces(), p.m.mapped.List(); !slices.Equal(got, want) {
		t.Fatalf("Pieces: %v; right is %v", got, want)
	}
	for id := -1; id <= objects+1; id++ {
		if got, want := p.s.Uses(id), p.m.uses(id); got != want {
			t.Fatalf("Uses(%d): %d; right is %d", id, got, want)
		}
		info, ok := p.set.Info(id)
		if twin, there := p.m.set.Info(id); info != twin || ok != there {
			t.Fatalf("Info(%d): %v, %t; right is %v, %t", id, info, ok, twin, there)
		}
		got, e := p.set.Read(id, 0, info.Size)
		if want, right := p.m.set.Read(id, 0, info.Size); !slices.Equal(got, want) || e != right {
			t.Fatalf("object %d: %q, %d; right is %q, %d", id, got, e, want, right)
		}
	}
	if got, want := p.set.Room(), p.m.set.Room(); got != want {
		t.Fatalf("%d frames are free; right is %d", got, want)
	}
}

// draws are numbers that hang on a seed alone.
type draws struct {
	seed uint64
	// made is how many objects were asked for.
	made int
}

// draw tells a number from 0 to below n.
func (d *draws) draw(n int) int {
	d.seed = d.seed*6364136223846793005 + 1442695040888963407
	return int(d.seed>>33) % n
}

// bounds tells a place and a length, mostly of whole pages, and mostly such as lie within so many.
func (d *draws) bounds(pages int) (at, n int) {
	at = d.draw(pages)
	n = 1 + d.draw(min(pages-at, 1+d.draw(pages)))
	at, n = at*page, n*page
	if d.draw(20) == 0 {
		at, n = at+(d.draw(5)-2)*page, n+(d.draw(5)-2)*page
	}
	if d.draw(20) == 0 {
		at, n = at+d.draw(3)-1, n+d.draw(3)-1
	}
	return at, n
}

// object tells an id that is there mostly.
func (d *draws) object() int {
	return d.draw(d.made+2) + d.draw(30)/29 - d.draw(30)/29
}

// work does one thing to both sets.
func (d *draws) work(p *pair) {
	id, size := d.object(), d.draw(5)*page
	at := d.draw(3) * page
	for _, set := range []*vmo.Set{p.set, p.m.set} {
		switch d.made % 7 {
		case 0, 1, 2:
			set.Create(size)
		case 3:
			set.Slice(id, at, size)
		case 4:
			set.Snapshot(id, at, size)
		case 5:
			set.Resize(id, size)
		case 6:
			set.Drop(id)
		}
	}
	d.made++
}

// bytes tells so many letters.
func (d *draws) bytes(n int) []byte {
	told := make([]byte, max(n, 0))
	for i := range told {
		told[i] = byte('a' + d.draw(26))
	}
	return told
}

// step asks both one thing.
func (d *draws) step(t *testing.T, p *pair) {
	t.Helper()
	at, n := d.bounds(p.pages)
	switch d.draw(12) {
	case 0, 1, 2:
		from, size := d.bounds(4)
		if d.draw(2) == 0 {
			at = -1
		}
		p.place(t, at, size, d.object(), from, 3-d.draw(6)/2%4)
	case 3:
		p.unmap(t, at, n)
	case 4:
		p.protect(t, at, n, 3-d.draw(10)/2%5)
	case 5, 6, 7:
		p.read(t, at+d.draw(page), d.draw(3*page))
		p.read(t, at, n)
	case 8, 9, 10:
		p.write(t, at+d.draw(page), d.bytes(d.draw(3*page)))
		p.write(t, at, d.bytes(n))
	case 11:
		if d.draw(40) == 0 {
			p.clear(t)
		} else if d.draw(4) == 0 {
			d.work(p)
		}
	}
}

// P10.1 to P10.4: thousands of calls come to what they come to byte by byte, while objects end, shrink, and run out of frames.
func TestAgainstModel(t *testing.T) {
	for i, c := range []struct{ frames, objects, pages, most, steps int }{
		{1, 1, 1, 1, 500}, {2, 2, 2, 2, 1000}, {5, 3, 4, 3, 3000}, {12, 8, 8, 6, 3000}, {30, 12, 20, 10, 3000}, {200, 30, 20, 20, 3000},
	} {
		for seed := range 3 {
			d := draws{seed: uint64(13*i + seed + 1)}
			p := newPair(c.frames, c.objects, c.pages, c.most)
			for range 8 {
				d.work(p)
			}
			for range c.steps {
				d.step(t, p)
				p.same(t, d.made)
			}
		}
	}
}

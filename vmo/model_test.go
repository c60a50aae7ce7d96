package vmo

import (
	"bytes"
	"slices"
	"testing"

	"jacinth/api"
)

// model is a set as the chapter's words have it, slow and plain: pages are shared by pointers,
// and a call that finds no frame is taken back as a whole.
type model struct {
	frames, most int
	// objects has number id at id - 1.
	objects []thing
}

// thing is an object, whether it has ended or not.
type thing struct {
	size, parent, from    int
	slice, dropped, ended bool
	pages                 []*[page]byte
}

// usable tells the object that calls may use, or nil.
func (m *model) usable(id int) *thing {
	if id < 1 || id > len(m.objects) || m.objects[id-1].ended || m.objects[id-1].dropped {
		return nil
	}
	return &m.objects[id-1]
}

// children tells how many children an object has, and whether one of them is a slice.
func (m *model) children(id int) (count int, slice bool) {
	for _, o := range m.objects {
		if o.parent == id && !o.ended {
			count++
			slice = slice || o.slice
		}
	}
	return count, slice
}

func (m *model) count() int {
	count := 0
	for _, o := range m.objects {
		if !o.ended {
			count++
		}
	}
	return count
}

// users tells how often each frame stands in a page.
func (m *model) users() map[*[page]byte]int {
	users := map[*[page]byte]int{}
	for _, o := range m.objects {
		for _, f := range o.pages {
			if f != nil {
				users[f]++
			}
		}
	}
	return users
}

func (m *model) room() int {
	return m.frames - len(m.users())
}

// saved is a model that shares nothing with m, but is as it is.
func (m *model) saved() model {
	made := map[*[page]byte]*[page]byte{nil: nil}
	for f := range m.users() {
		bytes := *f
		made[f] = &bytes
	}
	was := *m
	was.objects = slices.Clone(m.objects)
	for i := range was.objects {
		was.objects[i].pages = slices.Clone(was.objects[i].pages)
		for j, f := range was.objects[i].pages {
			was.objects[i].pages[j] = made[f]
		}
	}
	return was
}

// all does what do says, or nothing if frames are lacking behind it.
func (m *model) all(do func()) api.Status {
	was := m.saved()
	do()
	if m.room() < 0 {
		*m = was
		return api.ErrNoMemory
	}
	return api.OK
}

// own tells the bytes of a page that nobody else has.
func (m *model) own(o *thing, n int) *[page]byte {
	if o.pages[n] == nil {
		o.pages[n] = &[page]byte{}
	} else if m.users()[o.pages[n]] > 1 {
		bytes := *o.pages[n]
		o.pages[n] = &bytes
	}
	return o.pages[n]
}

// topmost tells whose pages stand behind an object, and at which place of it.
func (m *model) topmost(o *thing, at int) (*thing, int) {
	if !o.slice {
		return o, at
	}
	return m.topmost(&m.objects[o.parent-1], at+o.from)
}

func (m *model) create(size int) (int, api.Status) {
	switch {
	case size < 0:
		return 0, api.ErrInvalidArgs
	case size > api.MaxSize:
		return 0, api.ErrOutOfRange
	case m.count() == m.most:
		return 0, api.ErrNoMemory
	}
	count := (size + page - 1) / page
	m.objects = append(m.objects, thing{size: count * page, pages: make([]*[page]byte, count)})
	return len(m.objects), api.OK
}

func (m *model) info(id int) (Info, bool) {
	if id < 1 || id > len(m.objects) || m.objects[id-1].ended {
		return Info{}, false
	}
	o := m.objects[id-1]
	told := Info{Size: o.size, Parent: o.parent, Slice: o.slice, Dropped: o.dropped}
	told.Children, _ = m.children(id)
	for _, f := range o.pages {
		if f != nil {
			told.Committed++
		}
	}
	return told, true
}

func (m *model) read(id, at, n int) ([]byte, api.Status) {
	o := m.usable(id)
	switch {
	case o == nil:
		return nil, api.ErrNotFound
	case n < 0 || n > api.MaxMessage:
		return nil, api.ErrInvalidArgs
	case at < 0 || at+n > o.size:
		return nil, api.ErrOutOfRange
	}
	return m.stands(o, at, n), api.OK
}

// stands tells the bytes of an object, one by one.
func (m *model) stands(o *thing, at, n int) []byte {
	o, at = m.topmost(o, at)
	var told []byte
	for i := at; i < at+n; i++ {
		if f := o.pages[i/page]; f != nil {
			told = append(told, f[i%page])
		} else {
			told = append(told, 0)
		}
	}
	return told
}

func (m *model) write(id, at int, b []byte) api.Status {
	o := m.usable(id)
	switch {
	case o == nil:
		return api.ErrNotFound
	case len(b) > api.MaxMessage:
		return api.ErrInvalidArgs
	case at < 0 || at+len(b) > o.size:
		return api.ErrOutOfRange
	}
	return m.all(func() {
		o, at := m.topmost(m.usable(id), at)
		for i := range b {
			m.own(o, (at+i)/page)[(at+i)%page] = b[i]
		}
	})
}

func (m *model) resize(id, size int) api.Status {
	o := m.usable(id)
	switch {
	case o == nil:
		return api.ErrNotFound
	case size < 0:
		return api.ErrInvalidArgs
	case size > api.MaxSize:
		return api.ErrOutOfRange
	case o.slice:
		return api.ErrNotSupported
	}
	if _, slice := m.children(id); slice {
		return api.ErrBadState
	}
	pages := make([]*[page]byte, (size+page-1)/page)
	copy(pages, o.pages)
	o.pages, o.size = pages, len(pages)*page
	return api.OK
}

func (m *model) op(id, op, at, n int) api.Status {
	o := m.usable(id)
	switch {
	case o == nil:
		return api.ErrNotFound
	case op != 1 && op != 2 && op != 3:
		return api.ErrInvalidArgs
	case op != 3 && (at%page != 0 || n%page != 0):
		return api.ErrInvalidArgs
	case at < 0 || n < 0 || at+n > o.size:
		return api.ErrOutOfRange
	case n > api.MaxMessage:
		return api.ErrInvalidArgs
	}
	return m.all(func() {
		o, at := m.topmost(m.usable(id), at)
		for i := range o.pages {
			if at <= i*page && (i+1)*page <= at+n {
				if op == 1 {
					m.own(o, i)
				} else {
					o.pages[i] = nil
				}
			}
		}
		for i := at; i < at+n && op == 3; i++ {
			if o.pages[i/page] != nil {
				m.own(o, i/page)[i%page] = 0
			}
		}
	})
}

// height tells how many slices stand one above the other with o.
func (m *model) height(o *thing) int {
	if !o.slice {
		return 0
	}
	return 1 + m.height(&m.objects[o.parent-1])
}

func (m *model) child(id, at, n int, slice bool) (int, api.Status) {
	o := m.usable(id)
	switch {
	case o == nil:
		return 0, api.ErrNotFound
	case at < 0 || n < 0 || at%page != 0 || n%page != 0:
		return 0, api.ErrInvalidArgs
	case at+n > o.size:
		return 0, api.ErrOutOfRange
	case slice && m.height(o) >= api.MaxDepth, !slice && o.slice:
		return 0, api.ErrNotSupported
	case !slice && n > api.MaxMessage:
		return 0, api.ErrInvalidArgs
	case m.count() == m.most:
		return 0, api.ErrNoMemory
	}
	made := thing{size: n, parent: id, from: at, slice: slice}
	if !slice {
		made.pages = slices.Clone(o.pages[at/page : (at+n)/page])
	}
	m.objects = append(m.objects, made)
	return len(m.objects), api.OK
}

func (m *model) drop(id int) (ended []int, e api.Status) {
	o := m.usable(id)
	if o == nil {
		return nil, api.ErrNotFound
	}
	o.dropped = true
	for again := true; again; {
		again = false
		for i := range m.objects {
			o := &m.objects[i]
			if count, _ := m.children(i + 1); o.dropped && !o.ended && count == 0 {
				o.ended, o.pages, again = true, nil, true
				ended = append(ended, i+1)
			}
		}
	}
	return ended, api.OK
}

// pair is a set and a model that are asked the same, by draws that hang on a seed alone.
type pair struct {
	s    *Set
	m    *model
	seed uint64
	// pages is how many pages objects have, at most.
	pages int
}

// draw tells a number from 0 to below n.
func (p *pair) draw(n int) int {
	p.seed = p.seed*6364136223846793005 + 1442695040888963407
	return int(p.seed>>33) % n
}

// id tells a number, mostly one that calls may use.
func (p *pair) id() int {
	var usable []int
	for i := range p.m.objects {
		if p.m.usable(i+1) != nil {
			usable = append(usable, i+1)
		}
	}
	if len(usable) == 0 || p.draw(20) == 0 {
		return p.draw(len(p.m.objects) + 2)
	}
	return usable[p.draw(len(usable))]
}

// size tells a size, mostly of some pages.
func (p *pair) size() int {
	if p.draw(15) == 0 {
		return p.draw(2*page) - page
	}
	return p.draw(p.pages*page) + 1
}

// bounds tells a place and a length, mostly such as lie within an object, and mostly of whole pages.
func (p *pair) bounds(id int) (at, n int) {
	size := p.pages * page
	if o := p.m.usable(id); o != nil {
		size = o.size
	}
	at = p.draw(size + 1)
	n = p.draw(size - at + 1)
	if p.draw(12) == 0 {
		at, n = at+p.draw(5*page)-2*page, n+p.draw(5*page)-2*page
	}
	if p.draw(3) > 0 {
		at, n = at/page*page, (n+page-1)/page*page
	}
	return at, n
}

// answer is all that calls tell.
type answer struct {
	number int
	e      api.Status
	b      []byte
	ended  []int
}

// step asks both one thing, and tells which, and what they answered.
func (p *pair) step() (what int, got, want answer) {
	id := p.id()
	at, n := p.bounds(id)
	what = p.draw(20)
	switch what {
	case 0, 1:
		size := p.size()
		got.number, got.e = p.s.Create(size)
		want.number, want.e = p.m.create(size)
	case 2, 3:
		got.b, got.e = p.s.Read(id, at, n)
		want.b, want.e = p.m.read(id, at, n)
	case 4, 5, 6, 7:
		b := run(p.draw(255), max(n, 0))
		got.e, want.e = p.s.Write(id, at, b), p.m.write(id, at, b)
	case 8:
		size := p.size()
		got.e, want.e = p.s.Resize(id, size), p.m.resize(id, size)
	case 9, 10, 11, 12, 13:
		op := 1 + p.draw(3)
		if p.draw(20) == 0 {
			op = 4 * p.draw(2)
		}
		got.e, want.e = p.s.Op(id, op, at, n), p.m.op(id, op, at, n)
	case 14, 15, 16:
		got.number, got.e = p.s.Snapshot(id, at, n)
		want.number, want.e = p.m.child(id, at, n, false)
	case 17, 18:
		got.number, got.e = p.s.Slice(id, at, n)
		want.number, want.e = p.m.child(id, at, n, true)
	case 19:
		got.ended, got.e = p.s.Drop(id)
		want.ended, want.e = p.m.drop(id)
		// The model tells them as it finds them; children are younger than their parents.
		slices.Sort(want.ended)
		slices.Reverse(want.ended)
	}
	return what, got, want
}

// same tells whether two answers are one.
func same(a, b answer) bool {
	return a.number == b.number && a.e == b.e && bytes.Equal(a.b, b.b) && slices.Equal(a.ended, b.ended)
}

// shape holds what all objects are, and what stands in them, against what is right.
func (p *pair) shape(t *testing.T, whole bool) {
	t.Helper()
	has(t, p.s, p.m.count(), p.m.room())
	for id := range len(p.m.objects) + 2 {
		want, right := p.m.info(id)
		if got, ok := p.s.Info(id); got != want || ok != right {
			t.Fatalf("Info(%d): %+v, %t; right is %+v, %t", id, got, ok, want, right)
		}
		o := p.m.usable(id)
		for at := 0; whole && o != nil && at < o.size; at += api.MaxMessage {
			n := min(api.MaxMessage, o.size-at)
			reads(t, p.s, id, at, p.m.stands(o, at, n))
		}
	}
}

// P8.1 to P8.6: thousands of calls come to what they come to page by page and byte by byte.
func TestAgainstModel(t *testing.T) {
	for i, c := range []struct{ frames, most, pages, steps int }{
		{0, 3, 3, 500}, {1, 2, 2, 1000}, {2, 4, 3, 2000}, {5, 6, 4, 3000}, {9, 8, 5, 3000}, {12, 5, 8, 3000}, {20, 12, 6, 2000}, {70, 5, 70, 700},
	} {
		for seed := range 2 {
			p := &pair{s: New(c.frames, c.most), m: &model{frames: c.frames, most: c.most}, seed: uint64(7*i + seed + 1), pages: c.pages}
			for step := range c.steps {
				what, got, want := p.step()
				if !same(got, want) {
					t.Fatalf("%+v, seed %d, step %d, call %d: %v; right is %v", c, seed, step, what, got, want)
				}
				p.shape(t, step%8 == 0 || got.e == api.ErrNoMemory)
			}
		}
	}
}

package region

import (
	"slices"
	"testing"

	"jacinth/api"
)

// model is a region as the chapter's words have it, slow and plain: page by page.
type model struct {
	most int
	// made is how many pieces were made ever.
	made  int
	pages []leaf
}

// leaf is what a page is mapped to; pages of one piece have the same mark, 0 if they are not mapped.
type leaf struct {
	mark, vmo, from, prot int
}

func newModel(size, most int) *model {
	return &model{most: most, pages: make([]leaf, size/page)}
}

func (m *model) size() int {
	return len(m.pages) * page
}

// list tells all pieces, rising.
func (m *model) list() []Piece {
	told, _ := m.span(0, m.size(), true)
	return told
}

// span tells the parts that n numbers from at on are, one number after the other; false, if not all are mapped, or holes are let pass.
func (m *model) span(at, n int, holes bool) (told []Piece, all bool) {
	all = true
	mark := 0
	for i := at; i < at+n; i++ {
		l := leaf{}
		if i < m.size() {
			l = m.pages[i/page]
		}
		switch {
		case l.mark == 0:
			all = false
		case l.mark == mark:
			told[len(told)-1].Len++
		default:
			told = append(told, Piece{At: i, Len: 1, Vmo: l.vmo, From: l.from + i%page, Prot: l.prot})
		}
		mark = l.mark
	}
	if !all && !holes {
		return nil, false
	}
	return told, all
}

func (m *model) put(p Piece) api.Status {
	switch {
	case p.At < 0 || p.At%page != 0 || p.Len < 1 || p.Len%page != 0:
		return api.ErrInvalidArgs
	case p.From < 0 || p.From > api.MaxSize || p.From%page != 0 || p.Prot < 0 || p.Prot > 3:
		return api.ErrInvalidArgs
	case p.At > m.size() || p.Len > m.size()-p.At:
		return api.ErrOutOfRange
	}
	if told, _ := m.span(p.At, p.Len, true); len(told) > 0 {
		return api.ErrAlreadyExists
	}
	if len(m.list()) == m.most {
		return api.ErrNoMemory
	}
	m.made++
	for i := 0; i < p.Len; i += page {
		m.pages[(p.At+i)/page] = leaf{m.made, p.Vmo, p.From + i, p.Prot}
	}
	return api.OK
}

func (m *model) place(n int) (int, api.Status) {
	if n < 1 || n%page != 0 {
		return 0, api.ErrInvalidArgs
	}
	for at := 0; at <= m.size() && n <= m.size()-at; at += page {
		if told, _ := m.span(at, n, true); len(told) == 0 {
			return at, api.OK
		}
	}
	return 0, api.ErrNoMemory
}

// wrong tells what of a range isn't right for cut and protect.
func (m *model) wrong(at, n int) api.Status {
	switch {
	case at < 0 || n < 1 || at%page != 0 || n%page != 0:
		return api.ErrInvalidArgs
	case at > m.size() || n > m.size()-at:
		return api.ErrOutOfRange
	}
	return api.OK
}

// all does what do says, or nothing if there are too many pieces behind it.
func (m *model) all(do func()) api.Status {
	made, pages := m.made, slices.Clone(m.pages)
	do()
	if len(m.list()) > m.most {
		m.made, m.pages = made, pages
		return api.ErrNoMemory
	}
	return api.OK
}

// sever gives all pages from at on that are of a piece with the one ahead of them a mark of their own.
func (m *model) sever(at int) {
	first := at / page
	if first == 0 || first == len(m.pages) {
		return
	}
	mark := m.pages[first].mark
	if mark == 0 || mark != m.pages[first-1].mark {
		return
	}
	m.made++
	for i := first; i < len(m.pages) && m.pages[i].mark == mark; i++ {
		m.pages[i].mark = m.made
	}
}

func (m *model) cut(at, n int) ([]Piece, api.Status) {
	if s := m.wrong(at, n); s != api.OK {
		return nil, s
	}
	told, _ := m.span(at, n, true)
	s := m.all(func() {
		m.sever(at)
		m.sever(at + n)
		clear(m.pages[at/page : (at+n)/page])
	})
	if s != api.OK {
		return nil, s
	}
	return told, api.OK
}

func (m *model) protect(at, n, prot int) api.Status {
	if prot < 0 || prot > 3 {
		return api.ErrInvalidArgs
	}
	if s := m.wrong(at, n); s != api.OK {
		return s
	}
	if _, all := m.span(at, n, false); !all {
		return api.ErrNotFound
	}
	return m.all(func() {
		m.sever(at)
		m.sever(at + n)
		for i := at / page; i < (at+n)/page; i++ {
			m.pages[i].prot = prot
		}
	})
}

func (m *model) find(at int) (Piece, bool) {
	for _, p := range m.list() {
		if at >= p.At && at < p.At+p.Len {
			return p, true
		}
	}
	return Piece{}, false
}

func (m *model) mapped() int {
	count := 0
	for _, l := range m.pages {
		if l.mark != 0 {
			count += page
		}
	}
	return count
}

// asSpan tells what Span is to tell.
func (m *model) asSpan(at, n int) ([]Piece, api.Status) {
	if at < 0 || n < 0 {
		return nil, api.ErrInvalidArgs
	}
	if at > m.size() || n > m.size()-at {
		return nil, api.ErrNotFound
	}
	told, all := m.span(at, n, false)
	if !all {
		return nil, api.ErrNotFound
	}
	return told, api.OK
}

// pair is a region and a model that are asked the same.
type pair struct {
	r *Region
	m *model
}

func newPair(size, most int) pair {
	return pair{r: New(size, most), m: newModel(size, most)}
}

// saved is a pair that shares nothing with p, but is as it is.
func (p pair) saved() pair {
	r, m := *p.r, *p.m
	r.pieces, m.pages = slices.Clone(r.pieces), slices.Clone(m.pages)
	return pair{&r, &m}
}

func (p pair) put(t *testing.T, x Piece) {
	t.Helper()
	if got, want := p.r.Put(x), p.m.put(x); got != want {
		t.Fatalf("Put(%v) to %v: %d; right is %d", x, p.m.list(), got, want)
	}
	p.same(t)
}

func (p pair) cut(t *testing.T, at, n int) {
	t.Helper()
	was := p.m.list()
	got, s := p.r.Cut(at, n)
	if want, right := p.m.cut(at, n); !slices.Equal(got, want) || s != right {
		t.Fatalf("Cut(%d, %d) of %v: %v, %d; right is %v, %d", at, n, was, got, s, want, right)
	}
	p.same(t)
}

func (p pair) protect(t *testing.T, at, n, prot int) {
	t.Helper()
	was := p.m.list()
	if got, want := p.r.Protect(at, n, prot), p.m.protect(at, n, prot); got != want {
		t.Fatalf("Protect(%d, %d, %d) of %v: %d; right is %d", at, n, prot, was, got, want)
	}
	p.same(t)
}

func (p pair) place(t *testing.T, n int) {
	t.Helper()
	got, s := p.r.Place(n)
	if want, right := p.m.place(n); got != want || s != right {
		t.Fatalf("Place(%d) of %v: %d, %d; right is %d, %d", n, p.m.list(), got, s, want, right)
	}
}

func (p pair) span(t *testing.T, at, n int) {
	t.Helper()
	got, s := p.r.Span(at, n)
	if want, right := p.m.asSpan(at, n); !slices.Equal(got, want) || s != right {
		t.Fatalf("Span(%d, %d) of %v: %v, %d; right is %v, %d", at, n, p.m.list(), got, s, want, right)
	}
}

func (p pair) find(t *testing.T, at int) {
	t.Helper()
	got, ok := p.r.Find(at)
	if want, right := p.m.find(at); got != want || ok != right {
		t.Fatalf("Find(%d) of %v: %v, %t; right is %v, %t", at, p.m.list(), got, ok, want, right)
	}
}

// same holds the pieces, the size and how many numbers are mapped against those of the model.
func (p pair) same(t *testing.T) {
	t.Helper()
	if got, want := p.r.List(), p.m.list(); !slices.Equal(got, want) {
		t.Fatalf("List: %v; right is %v", got, want)
	}
	if p.r.Size() != p.m.size() || p.r.Mapped() != p.m.mapped() {
		t.Fatalf("size %d, mapped %d; right is %d, %d", p.r.Size(), p.r.Mapped(), p.m.size(), p.m.mapped())
	}
}

// layouts calls do with all pieces that may lie in count pages.
func layouts(count int, do func([]Piece)) {
	var lay func(at int, laid []Piece)
	lay = func(at int, laid []Piece) {
		if at == count*page {
			do(laid)
			return
		}
		lay(at+page, laid)
		for n := page; n <= count*page-at; n += page {
			// Some pieces go on where the one ahead of them ends, and have its object and protection.
			p := Piece{At: at, Len: n, Vmo: 1 + len(laid)/2, From: at, Prot: at / page % 3}
			lay(at+n, append(slices.Clone(laid), p))
		}
	}
	lay(0, nil)
}

// P9.1 to P9.3: each call on all layouts of few pages, at all ranges, with as many pieces as may be and with some fewer.
func TestAllLayouts(t *testing.T) {
	const count = 5
	layouts(count, func(laid []Piece) {
		for spare := range 3 {
			begun := newPair(count*page, len(laid)+spare)
			for _, p := range laid {
				begun.put(t, p)
			}
			for at := -page; at <= (count+1)*page; at += page {
				for n := -page; n <= (count+1)*page; n += page {
					begun.saved().put(t, Piece{at, n, 9, 64, 2})
					begun.saved().cut(t, at, n)
					begun.saved().protect(t, at, n, 1)
					begun.span(t, at, n)
				}
				begun.place(t, at)
			}
		}
	})
}

// P9.3: each number of all layouts is found, and each range told, of whole pages or not.
func TestAllNumbers(t *testing.T) {
	const count = 3
	layouts(count, func(laid []Piece) {
		begun := newPair(count*page, len(laid))
		for _, p := range laid {
			begun.put(t, p)
		}
		for at := -2; at <= count*page+2; at++ {
			begun.find(t, at)
			for n := -1; n <= count*page+2-at; n += 5 {
				begun.span(t, at, n)
			}
		}
	})
}

// draws are numbers that hang on a seed alone.
type draws struct {
	seed uint64
}

// draw tells a number from 0 to below n.
func (d *draws) draw(n int) int {
	d.seed = d.seed*6364136223846793005 + 1442695040888963407
	return int(d.seed>>33) % n
}

// bounds tells a place and a length, mostly of whole pages, and mostly such as lie within so many.
func (d *draws) bounds(pages int) (at, n int) {
	at = d.draw(pages)
	n = 1 + d.draw(min(pages-at, 1+d.draw(pages)))
	at, n = at*page, n*page
	if d.draw(20) == 0 {
		at, n = at+(d.draw(5)-2)*page, n+(d.draw(5)-2)*page
	}
	if d.draw(20) == 0 {
		at, n = at+d.draw(3)-1, n+d.draw(3)-1
	}
	return at, n
}

// step asks both one thing.
func (d *draws) step(t *testing.T, p pair) {
	t.Helper()
	pages := len(p.m.pages)
	at, n := d.bounds(pages)
	switch d.draw(8) {
	case 0, 1, 2:
		x := Piece{At: at, Len: n, Vmo: d.draw(4), From: d.draw(pages) * page, Prot: d.draw(4)}
		if free, s := p.m.place(n); s == api.OK && d.draw(2) == 0 {
			x.At = free
		}
		p.put(t, x)
	case 3:
		p.cut(t, at, n)
	case 4, 5:
		p.protect(t, at, n, d.draw(5)-d.draw(2))
	case 6:
		p.place(t, n)
		p.find(t, at+d.draw(page))
	case 7:
		p.span(t, at+d.draw(page), d.draw(2*page))
		p.span(t, at, n)
	}
}

// P9.1 to P9.3: thousands of calls come to what they come to page by page.
func TestAgainstModel(t *testing.T) {
	for i, c := range []struct{ pages, most, steps int }{
		{1, 1, 500}, {2, 2, 1000}, {4, 3, 2000}, {8, 5, 3000}, {8, 8, 3000}, {20, 7, 3000}, {20, 20, 3000}, {60, 30, 1000},
	} {
		for seed := range 3 {
			d := draws{seed: uint64(11*i + seed + 1)}
			p := newPair(c.pages*page, c.most)
			for range c.steps {
				d.step(t, p)
			}
		}
	}
}

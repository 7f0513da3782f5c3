package slumber_test

import (
	"bytes"
	"encoding/binary"
	"hash/crc32"
	"slices"

	"slumber/api"
	"slumber/slumber"
)

// seal adds the sum, which is the library's.
func seal(l []byte) []byte {
	return binary.LittleEndian.AppendUint32(slices.Clip(l), crc32.ChecksumIEEE(l))
}

// scribe writes images a second way: by the library's numbers, of the model.
type scribe struct {
	bytes   []byte
	old     bool
	numbers map[*modelObject]int
}

func (s *scribe) number(n int) {
	if s.old {
		s.bytes = binary.LittleEndian.AppendUint32(s.bytes, uint32(n))
	} else {
		s.bytes = binary.AppendUvarint(s.bytes, uint64(n))
	}
}

func (s *scribe) int(n int) {
	if s.old {
		s.number(n)
	} else {
		s.bytes = binary.AppendVarint(s.bytes, int64(n))
	}
}

func (s *scribe) values(l []any) {
	for _, v := range l {
		switch x := v.(type) {
		case nil:
			s.bytes = append(s.bytes, 0)
		case int:
			s.bytes = append(s.bytes, 1)
			s.int(x)
		case *modelObject:
			if n, ok := s.numbers[x]; ok {
				s.bytes = append(s.bytes, 2)
				s.number(n)
			} else { // what is not alive, by a weak object
				s.bytes = append(s.bytes, 0)
			}
		}
	}
}

func (s *scribe) program(p api.Program) {
	s.number(len(p.Funcs))
	for _, f := range p.Funcs {
		s.number(f.Params)
		s.number(f.Locals)
		s.number(len(f.Code))
		for _, i := range f.Code {
			s.number(i.Op)
			s.int(i.A)
		}
	}
}

// met are the objects that are alive, in the order of their numbers.
func (m *model) met() []*modelObject {
	var l []*modelObject
	look := func(values []any) {
		for _, v := range values {
			if o, ok := v.(*modelObject); ok && !slices.Contains(l, o) {
				l = append(l, o)
			}
		}
	}
	for _, f := range m.frames {
		look(f.locals)
		look(f.stack)
	}
	for i := 0; i < len(l); i++ {
		if l[i].kind != api.WeakObject {
			look(l[i].values)
		}
	}
	return l
}

// image is that of version 2, or of the old one: then what was put out is left out, and ints lose their high bits.
func (m *model) image(old bool) []byte {
	s := &scribe{bytes: []byte("SLM\x02"), old: old, numbers: map[*modelObject]int{}}
	if old {
		s.bytes[3] = 1
	}
	s.program(m.program)
	s.number(m.state)
	if !old {
		s.number(len(m.output))
		for _, n := range m.output {
			s.int(n)
		}
	}
	met := m.met()
	for i, o := range met {
		s.numbers[o] = i
	}
	s.number(len(m.frames))
	for _, f := range m.frames {
		s.number(f.function)
		s.number(f.pc)
		s.values(f.locals)
		s.values(f.stack)
	}
	s.number(len(met))
	for _, o := range met {
		s.number(o.kind)
		if o.kind != api.WeakObject {
			s.number(len(o.values))
		}
		s.values(o.values)
	}
	return seal(s.bytes)
}

// glass reads images a second way: it takes numbers of any length, and panics where there are no bytes left.
type glass struct {
	rest    []byte
	old     bool
	objects []*modelObject // one for each number, as many as ever may be
}

func (g *glass) take(n int) []byte {
	l := g.rest[:n]
	g.rest = g.rest[n:]
	return l
}

func (g *glass) number() int {
	if g.old {
		return int(binary.LittleEndian.Uint32(g.take(4)))
	}
	n, size := binary.Uvarint(g.rest)
	g.take(size)
	return int(n)
}

func (g *glass) int() int {
	if g.old {
		return int(int32(binary.LittleEndian.Uint32(g.take(4))))
	}
	n, size := binary.Varint(g.rest)
	g.take(size)
	return int(n)
}

// times reads so many things; too many end in a panic.
func (g *glass) times(n int, read func()) {
	for range n {
		if len(g.rest) == 0 {
			panic("no bytes left")
		}
		read()
	}
}

func (g *glass) values(n int) []any {
	var l []any
	g.times(n, func() {
		switch g.take(1)[0] {
		case 0:
			l = append(l, nil)
		case 1:
			l = append(l, g.int())
		case 2:
			l = append(l, g.objects[g.number()])
		default:
			panic("no value")
		}
	})
	return l
}

func (g *glass) program() (p api.Program) {
	g.times(g.number(), func() {
		f := api.Func{Params: g.number(), Locals: g.number()}
		g.times(g.number(), func() { f.Code = append(f.Code, api.Instr{Op: g.number(), A: g.int()}) })
		p.Funcs = append(p.Funcs, f)
	})
	if e, _ := slumber.Check(p); e != api.OK {
		panic("no program")
	}
	return p
}

func (g *glass) frame(p api.Program, last bool) *modelFrame {
	f := &modelFrame{function: g.number(), pc: g.number()}
	of := p.Funcs[f.function]
	heights, _ := heightsByStates(p, of)
	height, ok := heights[f.pc]
	if !ok {
		panic("not come to")
	}
	if !last {
		height -= p.Funcs[of.Code[f.pc].A].Params
	}
	f.locals, f.stack = g.values(of.Locals), g.values(height)
	return f
}

// judged reads the model of an image whose outer parts are as they must be. It is one if the scribe writes the model as the image, and the model could be.
func judged(image []byte) (m *model, ok bool) {
	defer func() {
		if recover() != nil {
			m, ok = nil, false
		}
	}()
	g := &glass{rest: image[4 : len(image)-4], old: image[3] == 1}
	for range api.MaxCapacity {
		g.objects = append(g.objects, &modelObject{})
	}
	m = &model{program: g.program(), state: g.number()}
	if !g.old {
		g.times(g.number(), func() { m.output = append(m.output, g.int()) })
	}
	frames := g.number()
	g.times(frames, func() { m.frames = append(m.frames, g.frame(m.program, len(m.frames) == frames-1)) })
	m.slots = g.objects[:g.number()]
	for _, o := range m.slots {
		o.kind = g.number()
		size := 1
		if o.kind != api.WeakObject {
			size = g.number()
		}
		o.values = g.values(size)
	}
	return m, bytes.Equal(m.image(g.old), image) && m.couldBe() && (!g.old || !m.isNew())
}

// couldBe asks what the scribe would write of any model.
func (m *model) couldBe() bool {
	if m.state < 0 || m.state > api.OutFull || len(m.output) > api.MaxOutput || len(m.frames) > api.MaxFrames {
		return false
	}
	if m.state == api.Halted && len(m.frames) > 0 || m.state != api.Halted && len(m.frames) == 0 {
		return false
	}
	for i, f := range m.frames {
		calls := api.Instr{Op: api.Call, A: 0}
		if i > 0 {
			below := m.frames[i-1]
			calls = m.program.Funcs[below.function].Code[below.pc]
		}
		if calls.Op != api.Call || calls.A != f.function {
			return false
		}
	}
	most := map[int]int{api.RecordObject: api.MaxRecord, api.ArrayObject: api.MaxArray, api.WeakObject: 1}
	for _, o := range m.slots {
		if n, ok := most[o.kind]; !ok || len(o.values) > n || o.kind == api.WeakObject && isNumber(o.values[0]) {
			return false
		}
	}
	return true
}

// isNew tells whether there is something that the old version has not.
func (m *model) isNew() bool {
	for _, f := range m.program.Funcs {
		for _, i := range f.Code {
			if i.Op == api.Weak || i.Op == api.Strong {
				return true
			}
		}
	}
	return slices.ContainsFunc(m.slots, func(o *modelObject) bool { return o.kind == api.WeakObject })
}

// sleep leaves what an image tells of.
func (m *model) sleep() {
	m.free(m.alive())
	m.slots = m.met()
}

// settle lays the objects, which lie in the order of their numbers, into other slots.
func (m *model) settle(capacity int, draws []int) {
	objects := m.slots
	m.slots, m.draws = make([]*modelObject, capacity), draws
	for _, o := range objects {
		m.slots[m.slotFor()] = o
	}
}

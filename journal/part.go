package journal

import (
	"strings"

	"sojourn/api"
	"sojourn/block"
	"sojourn/frame"
	"sojourn/wire"
)

// The kinds of parts.
const (
	kindBegin = iota + 1
	kindRecord
	kindEnd
	kindMark
)

// part is what a frame on a device tells: its place is what was safe there when it was put, behind is where the next one stands.
type part struct {
	kind, gen, place int
	text             string
	behind           int
}

// sealed is the frame of a part. None is too long for one, nor has a number that can't be written.
func (p part) sealed() string {
	var o wire.Out
	o.Num(p.kind)
	o.Num(p.gen)
	o.Num(p.place)
	o.Text(p.text)
	s, _ := o.Done()
	s, _ = frame.Seal(s)
	return s
}

// partAt is the part that stands in a device's bytes at a place.
func partAt(s string, at int) (part, bool) {
	payload, behind, err := frame.Open(s, at)
	if err != nil {
		return part{}, false
	}
	i := wire.Read(payload)
	p := part{behind: behind}
	p.kind = i.Num(kindMark)
	p.gen = i.Num(api.MaxNum)
	p.place = i.Num(api.MaxNum)
	p.text = i.Text(MaxRecord)
	if i.End() != nil || p.kind < kindBegin || p.gen < 1 || p.kind != kindRecord && p.text != "" {
		return part{}, false
	}
	return p, true
}

// writer writes parts that are put on a device now: of one kind, a part for each text.
func writer(d *block.Disk, gen int) func(kind int, texts ...string) string {
	place := d.Safe()
	return func(kind int, texts ...string) string {
		var b strings.Builder
		for _, s := range texts {
			if b.Len() > api.MaxBlock {
				break // no device has room for so much: it is refused, whatever else there is
			}
			b.WriteString(part{kind: kind, gen: gen, place: place, text: s}.sealed())
		}
		return b.String()
	}
}

// told is what a device tells: its parts, and where they end.
type told struct {
	parts   []part
	end     int
	corrupt bool
}

// read is what a device tells whose power is on.
func read(d *block.Disk) told {
	s, _ := d.Read(0, d.Len())
	var t told
	for p, ok := partAt(s, 0); ok; p, ok = partAt(s, t.end) {
		t.parts = append(t.parts, p)
		t.end = p.behind
	}
	t.corrupt = lost(s, t.end)
	return t
}

// lost tells whether what stood at a place, where no part stands, was safe once: a later part says so. Of what a crash takes none does, since parts tell only what was safe when they were put.
func lost(s string, place int) bool {
	for at := frame.Find(s, place); at >= 0; at = frame.Find(s, at+1) {
		if p, ok := partAt(s, at); ok && p.place > place {
			return true
		}
	}
	return false
}

// whole tells whether the parts are a Begin, Records, an End, and then Records and Marks, all of one generation.
func (t told) whole() bool {
	ended := false
	for i, p := range t.parts {
		first := i == 0
		switch {
		case p.gen != t.parts[0].gen, first != (p.kind == kindBegin):
			return false
		case p.kind == kindEnd && ended, p.kind == kindMark && !ended:
			return false
		case p.kind == kindEnd:
			ended = true
		}
	}
	return ended && !t.corrupt
}

// gen is the generation of the first part; 0, if there is none.
func (t told) gen() int {
	if len(t.parts) == 0 {
		return 0
	}
	return t.parts[0].gen
}

// relied tells whether a device that is corrupt might have been the present one: it isn't, if the other one took its place.
func (t told) relied(other told) bool {
	begun := len(t.parts) > 0 && t.parts[0].kind == kindBegin
	return !begun || !other.whole() || other.gen() <= t.gen()
}

// records is the texts of the Records.
func records(parts []part) []string {
	var l []string
	for _, p := range parts {
		if p.kind == kindRecord {
			l = append(l, p.text)
		}
	}
	return l
}

package partial

import (
	"bytes"

	"pergola/api"
)

// stop is a place on a key's way.
type stop struct {
	at    thing
	lead  int  // how many nibbles lead there
	child bool // it is an extension's: a branch must stand there
}

// walk goes a key's way, by its nibbles: the places on it, from the topmost one on, with the nodes that stand there; at the last one there may be nothing. False: a node on it can't be had.
func (p *Partial) walk(path []byte) ([]stop, bool) {
	var way []stop
	here, on := stop{at: p.top}, true
	for on {
		found, ok := p.look(here)
		if !ok {
			return nil, false
		}
		here.at = found
		way = append(way, here)
		here, on = here.next(path)
	}
	return way, true
}

// look tells what stands at a place; if that is a stub, its node. False: it can't be had.
func (p *Partial) look(s stop) (thing, bool) {
	d, ok := s.at.(stub)
	if !ok {
		return s.at, true
	}
	found := p.known[api.Digest(d)]
	if found == nil || s.child && !isBranch(found) || !fits(found, s.lead) {
		return nil, false
	}
	p.used[api.Digest(d)] = struct{}{}
	return found, true
}

func isBranch(t thing) bool {
	_, ok := t.(branch)
	return ok
}

// next is where a key's way goes on; false: it ends here.
func (s stop) next(path []byte) (stop, bool) {
	rest := path[s.lead:]
	switch t := s.at.(type) {
	case extension:
		if bytes.HasPrefix(rest, t.path) {
			return stop{t.child, s.lead + len(t.path), true}, true
		}
	case branch:
		if len(rest) > 0 {
			return stop{t.kids[rest[0]], s.lead + 1, false}, true
		}
	}
	return stop{}, false
}

// value tells the value of the key whose way ends here; none, if it has none.
func (s stop) value(path []byte) []byte {
	switch t := s.at.(type) {
	case leaf:
		if bytes.Equal(t.path, path[s.lead:]) {
			return t.value
		}
	case branch:
		return t.value
	}
	return nil
}

// without is what is left of a leaf, or of a branch, when its value goes. False: a node is wanted that can't be had.
func (p *Partial) without(s stop) (thing, bool) {
	b, ok := s.at.(branch)
	if !ok {
		return nil, true
	}
	b.value = nil
	return p.normal(b, s.lead)
}

// remake makes the nodes on a way anew, from its end up, with t below them. Nothing has changed if a node is wanted that can't be had.
func (p *Partial) remake(way []stop, path []byte, t thing) api.Errno {
	for i := len(way) - 1; i >= 0; i-- {
		switch above := way[i].at.(type) {
		case extension:
			t = under(t, above.path)
		case branch:
			above.kids[path[way[i].lead]] = t
			made, ok := p.normal(above, way[i].lead)
			if !ok {
				return api.ErrWitness
			}
			t = made
		}
	}
	p.top = t
	return api.OK
}

// normal is what a branch that may have lost something is in the normal form: at least one kid, or the value, is left. False: the last kid can't be had.
func (p *Partial) normal(b branch, lead int) (thing, bool) {
	kids, last := 0, 0
	for i, kid := range b.kids {
		if kid != nil {
			kids, last = kids+1, i
		}
	}
	if kids == 0 {
		return leaf{nil, b.value}, true
	}
	if kids > 1 || len(b.value) > 0 {
		return b, true
	}
	kid, ok := p.look(stop{b.kids[last], lead + 1, false})
	if !ok {
		return nil, false
	}
	if isBranch(kid) {
		// It is not made anew, and keeps its name.
		kid = b.kids[last]
	}
	return under(kid, []byte{byte(last)}), true
}

package recorder_test

import (
	"maps"
	"slices"
	"strings"

	"pergola/api"
)

// spot is a node of a trie of some keys, and where it stands.
type spot struct {
	n     api.Node
	lead  string // the digits that lead there
	kids  []*spot
	child *spot
}

// spotOf works a trie out of its keys, which are digits that begin with lead, and their values.
func spotOf(p pairs, lead string) *spot {
	keys := slices.Sorted(maps.Keys(p))
	if len(keys) == 0 {
		return nil
	}
	if len(keys) == 1 {
		return &spot{n: leaf(keys[0][len(lead):], p[keys[0]]), lead: lead}
	}
	s := &spot{lead: lead}
	if same := alike(keys[0], keys[len(keys)-1]); same != lead {
		s.child = spotOf(p, same)
		s.n = ext(same[len(lead):], s.child.n)
		return s
	}
	by := kids{}
	for _, digit := range strings.Split(hexDigits, "") {
		if kid := spotOf(p.below(lead+digit), lead+digit); kid != nil {
			s.kids, by[digit] = append(s.kids, kid), kid.n
		}
	}
	s.n = branch(p[lead], by)
	return s
}

// below are those whose keys begin so.
func (p pairs) below(lead string) pairs {
	some := pairs{}
	for key, value := range p {
		if strings.HasPrefix(key, lead) {
			some[key] = value
		}
	}
	return some
}

// alike is what both begin with.
func alike(a, b string) string {
	for !strings.HasPrefix(b, a) {
		a = a[:len(a)-1]
	}
	return a
}

// way are the nodes on a key's way.
func (s *spot) way(digits string) []*spot {
	if s == nil {
		return nil
	}
	way := []*spot{s}
	if s.child != nil && strings.HasPrefix(digits, s.child.lead) {
		return append(way, s.child.way(digits)...)
	}
	for _, kid := range s.kids {
		if strings.HasPrefix(digits, kid.lead) {
			return append(way, kid.way(digits)...)
		}
	}
	return way
}

// lastKid is the kid that is left alone of a branch when the value at a way's end goes; nil, if none is.
func lastKid(way []*spot) *spot {
	end := way[len(way)-1]
	if end.n.Kind == api.Branch {
		if len(end.kids) == 1 {
			return end.kids[0]
		}
		return nil
	}
	if len(way) == 1 {
		return nil
	}
	above := way[len(way)-2]
	if len(above.kids) != 2 || len(above.n.Value) > 0 {
		return nil
	}
	return above.kids[1-slices.Index(above.kids, end)]
}

// plain tells notes by the keys alone. Wherever a call comes by, and a node of the beginning stood there that was named by a digest, that node is noted: it stands there yet, or else it was found when it was made anew.
type plain struct {
	first map[string]string // the nodes of the beginning that have a name of their own, by where they stood
	now   pairs             // by digits
	notes map[string]bool
}

func newPlain(p pairs) *plain {
	m := &plain{map[string]string{}, pairs{}, map[string]bool{}}
	for key, value := range p {
		m.now[digitsOf(key)] = value
	}
	top := spotOf(m.now, "")
	if top != nil {
		m.first[""] = string(written(top.n))
	}
	m.keep(top)
	return m
}

func (m *plain) keep(s *spot) {
	if s == nil {
		return
	}
	if b := written(s.n); len(b) >= 32 {
		m.first[s.lead] = string(b)
	}
	m.keep(s.child)
	for _, kid := range s.kids {
		m.keep(kid)
	}
}

// note notes what stood in these places.
func (m *plain) note(places []*spot) {
	for _, s := range places {
		if text, ok := m.first[s.lead]; ok {
			m.notes[text] = true
		}
	}
}

// do notes what a call comes by, and does it.
func (m *plain) do(c call) {
	if len(c.key) > 32 || c.what == 'p' && (c.value == "" || len(c.value) > 256) {
		return
	}
	digits := digitsOf(c.key)
	way := spotOf(m.now, "").way(digits)
	m.note(way)
	if c.what == 'p' {
		m.now[digits] = c.value
	}
	if _, has := m.now[digits]; c.what == 'd' && has {
		if kid := lastKid(way); kid != nil {
			m.note([]*spot{kid})
		}
		delete(m.now, digits)
	}
}

func (m *plain) texts() []string { return slices.Sorted(maps.Keys(m.notes)) }

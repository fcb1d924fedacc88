package kbo

import (
	"cmp"

	"sorites/api"
)

// scales hold a, on the left, against b: they are kept from the innermost parts
// on outwards, so that no part is counted again for each term that it is in.
type scales struct {
	size  int         // how much greater a's size is than b's
	vars  map[int]int // how much more often each variable stands in a than in b, by its number
	spare int         // how often in all variables stand in a beyond how often they do in b
	lacks int         // how often in all variables stand in b beyond how often they do in a
}

// The sides of scales, as what one symbol or variable there counts for.
const (
	left  = 1
	right = -1
)

// compare begins with nothing on the scales. Parts that are the same are left
// off, since they weigh as much on either side: it ends with nothing there if
// the terms are the same, else with what a and b weigh against each other.
func (s *scales) compare(a, b api.T) int {
	list, other := parts(a), parts(b)
	if a.F != b.F || len(list) != len(other) {
		s.add(a, left)
		s.add(b, right)
		return s.verdict(compareHeads(a, b))
	}
	for n := range list {
		if within := s.compare(list[n], other[n]); within != same {
			s.addAll(list[n+1:], left)
			s.addAll(other[n+1:], right)
			return s.verdict(within)
		}
	}
	return same
}

// verdict is that of the sizes, or, of like ones, what was seen within; and
// neither term is greater if the other one has a variable more often.
func (s *scales) verdict(within int) int {
	order := within
	if s.size != 0 {
		order = cmp.Compare(s.size, 0)
	}
	if order == greater && s.lacks > 0 || order == less && s.spare > 0 {
		return neither
	}
	return order
}

// compareHeads is of terms with unlike symbols, or unlike numbers of parts.
func compareHeads(a, b api.T) int {
	if isVar(a) || isVar(b) {
		return neither
	}
	return cmp.Or(cmp.Compare(a.F, b.F), cmp.Compare(len(a.L), len(b.L)))
}

func (s *scales) add(t api.T, side int) {
	s.size += side
	if isVar(t) {
		s.addVar(number(t), side)
		return
	}
	s.addAll(t.L, side)
}

func (s *scales) addAll(list []api.T, side int) {
	for _, t := range list {
		s.add(t, side)
	}
}

// addVar makes the map when the first variable comes, as many terms have none.
func (s *scales) addVar(v, side int) {
	if s.vars == nil {
		s.vars = map[int]int{}
	}
	was := s.vars[v]
	now := was + side
	s.vars[v] = now
	s.spare += max(now, 0) - max(was, 0)
	s.lacks += max(-now, 0) - max(-was, 0)
}

func isVar(t api.T) bool { return t.F < 0 }

func number(variable api.T) int { return -1 - variable.F }

// parts is asked where two terms may be variables, since what lies in a
// variable's list counts for nothing.
func parts(t api.T) []api.T {
	if isVar(t) {
		return nil
	}
	return t.L
}

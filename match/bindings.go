package match

import (
	"slices"

	"sorites/api"
	"sorites/subst"
	"sorites/term"
)

// bindings has the terms as they were bound, in the memory of what was handed
// in: variables in them are the term's, so nothing is ever put into them.
type bindings struct {
	list  subst.S     // those handed in, and behind them those that were added
	first map[int]int // where the first one of each number stands in list; nil till it is asked for in a long one
}

// behind clips, so that what is added isn't written into the room that lies
// behind what was handed in.
func behind(s subst.S) *bindings { return &bindings{list: slices.Clip(s)} }

// match goes in the order of places, so that what is added stands as the
// pattern's variables first do.
func (b *bindings) match(pattern, t api.T) bool {
	if isVar(pattern) {
		return b.bind(number(pattern), t)
	}
	if pattern.F != t.F || len(pattern.L) != len(t.L) {
		return false
	}
	for n, part := range pattern.L {
		if !b.match(part, t.L[n]) {
			return false
		}
	}
	return true
}

// bind adds a variable that is bound to itself too, for else it could be bound
// again, to another term.
func (b *bindings) bind(v int, t api.T) bool {
	if bound, ok := b.get(v); ok {
		return term.Same(bound, t)
	}
	if b.first != nil {
		b.first[v] = len(b.list)
	}
	b.list = append(b.list, subst.Bind{V: v, T: t})
	return true
}

// few bindings are gone through faster than a map of them is made.
const few = 64

// get isn't subst's, which clones: a term that isn't the same is most often
// seen to be so at its head, whatever its size.
func (b *bindings) get(v int) (api.T, bool) {
	if b.first == nil && len(b.list) > few {
		b.first = firsts(b.list)
	}
	n, ok := b.find(v)
	if !ok {
		return api.T{}, false
	}
	return b.list[n].T, true
}

func (b *bindings) find(v int) (int, bool) {
	if b.first != nil {
		n, ok := b.first[v]
		return n, ok
	}
	n := slices.IndexFunc(b.list, func(one subst.Bind) bool { return one.V == v })
	return n, n >= 0
}

func firsts(s subst.S) map[int]int {
	first := make(map[int]int, len(s))
	for n, b := range slices.Backward(s) {
		first[b.V] = n
	}
	return first
}

func (b *bindings) told() subst.S {
	list := make(subst.S, len(b.list))
	for n, one := range b.list {
		list[n] = subst.Bind{V: one.V, T: term.Clone(one.T)}
	}
	return list
}

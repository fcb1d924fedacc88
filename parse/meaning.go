package parse

import (
	"slices"
	"strings"

	"sorites/api"
	"sorites/clause"
)

// maxSymbols are as many as a source may have, without the symbol 0, which
// stands in none.
const maxSymbols = 200

// kind is a small name with all that it has to be wherever it stands: a name
// that is met as a second kind makes the source malformed.
type kind struct {
	name  string
	parts int
	pred  bool
}

// names gives numbers to names as they first stand.
type names struct {
	sig       api.Sig
	symbols   map[kind]int
	variables map[string]int // of the clause that is gone through
}

// meaning is what becomes of clauses as they are written; false if a name is of
// two kinds, or there are too many names, or a clause weighs too much.
func meaning(written [][]sentence) (api.Sig, []api.Clause, bool) {
	n := &names{sig: Start(), symbols: map[kind]int{}}
	var list []api.Clause
	for _, sentences := range written {
		c, ok := n.clause(sentences)
		if !ok || clause.Weight(c) > api.MaxWeight {
			return api.Sig{}, nil, false
		}
		list = append(list, c)
	}
	return n.sig, list, true
}

func (n *names) clause(sentences []sentence) (api.Clause, bool) {
	n.variables = map[string]int{}
	var c api.Clause
	for _, s := range sentences {
		l, ok := n.literal(s)
		if !ok {
			return nil, false
		}
		c = append(c, l)
	}
	return c, true
}

func (n *names) literal(s sentence) (api.Lit, bool) {
	l := api.Lit{Neg: s.neg}
	var ok bool
	if s.atom {
		// B is the symbol 0 without parts as it is.
		l.A, ok = n.symbol(s.a, true)
		return l, ok
	}
	if l.A, ok = n.term(s.a); !ok {
		return api.Lit{}, false
	}
	l.B, ok = n.term(s.b)
	return l, ok
}

func (n *names) term(p phrase) (api.T, bool) {
	if isGreat(p.name) {
		return api.T{F: -1 - n.variable(p.name)}, true
	}
	return n.symbol(p, false)
}

func (n *names) symbol(p phrase, pred bool) (api.T, bool) {
	number, ok := n.number(kind{p.name, len(p.parts), pred})
	if !ok {
		return api.T{}, false
	}
	t := api.T{F: number}
	for _, part := range p.parts {
		u, ok := n.term(part)
		if !ok {
			return api.T{}, false
		}
		t.L = append(t.L, u)
	}
	return t, true
}

func (n *names) number(k kind) (int, bool) {
	if number, ok := n.symbols[k]; ok {
		return number, true
	}
	number := len(n.sig.Names)
	if number > maxSymbols || slices.Contains(n.sig.Names, k.name) {
		return 0, false
	}
	n.symbols[k] = number
	// Cloned, for else the name would share the source's memory.
	n.sig.Names = append(n.sig.Names, strings.Clone(k.name))
	n.sig.Arity = append(n.sig.Arity, k.parts)
	n.sig.Pred = append(n.sig.Pred, k.pred)
	return number, true
}

func (n *names) variable(name string) int {
	number, ok := n.variables[name]
	if !ok {
		number = len(n.variables)
		n.variables[name] = number
	}
	return number
}

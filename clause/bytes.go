package clause

import (
	"slices"

	"sorites/api"
	"sorites/code"
)

const (
	maxItems  = 4096 // literals of a clause, and parts of a term
	maxOthers = 256  // that a part is in
	negSign   = 1    // the greatest sign there is
)

// Put: bytes behind others.
func Put(b []byte, c api.Clause) []byte {
	b = appendUint(slices.Clone(b), uint64(len(c)))
	for _, l := range c {
		b = appendUint(b, uint64(sign(l)))
		b = appendTerm(b, l.A)
		b = appendTerm(b, l.B)
	}
	return b
}

// Get: a clause at a place.
func Get(b []byte, at int) (api.Clause, int, api.Err) {
	return getList(b, at, func(at int) (api.Lit, int, api.Err) { return getLit(b, at) })
}

func sign(l api.Lit) byte {
	if l.Neg {
		return negSign
	}
	return 0
}

// appendUint writes into the room behind b, where code.PutUint would copy all
// of b for each number.
func appendUint(b []byte, n uint64) []byte { return append(b, code.PutUint(nil, n)...) }

func appendTerm(b []byte, t api.T) []byte {
	b = append(b, code.PutInt(nil, int64(t.F))...)
	if isVar(t) {
		return b
	}
	b = appendUint(b, uint64(len(t.L)))
	for _, part := range t.L {
		b = appendTerm(b, part)
	}
	return b
}

func isVar(t api.T) bool { return t.F < 0 }

func getLit(b []byte, at int) (api.Lit, int, api.Err) {
	neg, at, err := getUint(b, at, negSign)
	if err != api.OK {
		return api.Lit{}, 0, err
	}
	left, at, err := getTerm(b, at, 0)
	if err != api.OK {
		return api.Lit{}, 0, err
	}
	right, at, err := getTerm(b, at, 0)
	if err != api.OK {
		return api.Lit{}, 0, err
	}
	return api.Lit{Neg: neg == negSign, A: left, B: right}, at, api.OK
}

// getTerm is told in how many others the term is: too many is an error ahead of
// its bytes, as it comes with the number of parts that was read last.
func getTerm(b []byte, at, others int) (api.T, int, api.Err) {
	if others > maxOthers {
		return api.T{}, 0, api.Form
	}
	t, at, err := getHead(b, at)
	if err != api.OK || isVar(t) {
		return t, at, err
	}
	t.L, at, err = getList(b, at, func(at int) (api.T, int, api.Err) { return getTerm(b, at, others+1) })
	if err != api.OK {
		return api.T{}, 0, err
	}
	return t, at, api.OK
}

// getHead has a term without its parts.
func getHead(b []byte, at int) (api.T, int, api.Err) {
	f, next, err := code.Int(b, at)
	if err == api.OK && int64(int32(f)) != f {
		err = api.Form
	}
	if err != api.OK {
		return api.T{}, 0, err
	}
	return api.T{F: int(f)}, next, api.OK
}

// getList makes no room ahead for as many as are told: there may be fewer.
func getList[I any](b []byte, at int, get func(at int) (I, int, api.Err)) ([]I, int, api.Err) {
	count, at, err := getUint(b, at, maxItems)
	if err != api.OK {
		return nil, 0, err
	}
	var list []I
	for range count {
		var item I
		item, at, err = get(at)
		if err != api.OK {
			return nil, 0, err
		}
		list = append(list, item)
	}
	return list, at, api.OK
}

func getUint(b []byte, at int, most uint64) (uint64, int, api.Err) {
	n, next, err := code.Uint(b, at)
	if err == api.OK && n > most {
		err = api.Form
	}
	if err != api.OK {
		return 0, 0, err
	}
	return n, next, api.OK
}

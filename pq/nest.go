package pq

import (
	"haycock/api"
	"haycock/binomial"
	"haycock/dary"
	"haycock/fibonacci"
	"haycock/gauge"
	"haycock/leftist"
	"haycock/pairing"
	"haycock/shed"
	"haycock/skew"
)

// nest is what a store asks of its heaps, whichever kind they are of. There is no
// Extract: a store must know an entry ahead of its coming out.
type nest interface {
	Make() int
	Has(h int) bool
	Len(h int) int
	Insert(h, slot int, e api.Entry) bool
	Min(h int) (int, bool)
	Decrease(slot int, e api.Entry) bool
	Delete(slot int) bool
	Meld(a, b int) bool
	Entry(slot int) (api.Entry, bool)
	Home(slot int) (int, bool)
	Steps() int
}

// newNest is a nest of a Config's kind.
func newNest(c api.Config, capacity int) (nest, api.Errno) {
	switch c.Kind {
	case api.KindBinary, api.KindDary:
		rows := func(capacity int) (*dary.Nest, api.Errno) {
			return dary.New(capacity, gauge.Arity(c))
		}
		return opened(rows, capacity)
	case api.KindBinomial:
		return opened(binomial.New, capacity)
	case api.KindPairing:
		return opened(pairing.New, capacity)
	case api.KindFibonacci:
		return opened(fibonacci.New, capacity)
	case api.KindLeftist:
		return opened(leftist.New, capacity)
	case api.KindSkew:
		return opened(skew.New, capacity)
	case api.KindLibrary:
		return opened(shed.New, capacity)
	}
	return nil, api.ErrKind
}

// opened is what open makes, or its error. The nil pointer beside an error must not
// become a nest: held in one, it would be nil no more.
func opened[N nest](open func(capacity int) (N, api.Errno), capacity int) (nest, api.Errno) {
	n, e := open(capacity)
	if e != api.OK {
		return nil, e
	}
	return n, api.OK
}

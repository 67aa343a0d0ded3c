package exprs

import (
	"math"
	"math/bits"

	"colrun/api"
	"colrun/value"
)

func number(n int64) api.Value {
	return api.Value{Kind: api.Int, N: n}
}

func truth(holds bool) api.Value {
	if holds {
		return api.Value{Kind: api.Bool, N: 1}
	}
	return api.Value{Kind: api.Bool}
}

// sum has left 64 bits if both numbers have the one sign and it has the other.
func sum(a, b api.Value) (api.Value, error) {
	n := a.N + b.N
	if (a.N^n)&(b.N^n) < 0 {
		return api.Value{}, ErrOverflow
	}
	return number(n), nil
}

// difference has left 64 bits if the numbers have two signs and it has the second one's.
func difference(a, b api.Value) (api.Value, error) {
	n := a.N - b.N
	if (a.N^b.N)&(a.N^n) < 0 {
		return api.Value{}, ErrOverflow
	}
	return number(n), nil
}

// product is worked without signs, as there the upper 64 bits can be had.
func product(a, b api.Value) (api.Value, error) {
	high, low := bits.Mul64(size(a.N), size(b.N))
	negative := (a.N < 0) != (b.N < 0)
	most := uint64(math.MaxInt64)
	if negative {
		most++
	}
	if high != 0 || low > most {
		return api.Value{}, ErrOverflow
	}
	if negative {
		return number(int64(-low)), nil
	}
	return number(int64(low)), nil
}

// size is the number without its sign; the least one has room too, as the wrap-round is its size.
func size(n int64) uint64 {
	if n < 0 {
		return -uint64(n)
	}
	return uint64(n)
}

func quotient(a, b api.Value) (api.Value, error) {
	if b.N == 0 {
		return api.Value{}, ErrDivide
	}
	if a.N == math.MinInt64 && b.N == -1 {
		return api.Value{}, ErrOverflow
	}
	return number(a.N / b.N), nil
}

func isSame(a, b api.Value) (api.Value, error) {
	return truth(a == b), nil
}

func isBelow(a, b api.Value) (api.Value, error) {
	return truth(value.Compare(a, b) < 0), nil
}

func areBoth(a, b api.Value) (api.Value, error) {
	return decided(a, b, truth(false)), nil
}

func isEither(a, b api.Value) (api.Value, error) {
	return decided(a, b, truth(true)), nil
}

// decided is the value that decides, if one is it; else NULL, if one is NULL; else the value that both are.
func decided(a, b, decides api.Value) api.Value {
	switch {
	case a == decides || b == decides:
		return decides
	case a.Kind == api.Null:
		return a
	}
	return b
}

func isNot(a, _ api.Value) (api.Value, error) {
	return truth(a.N == 0), nil
}

func isNone(a, _ api.Value) (api.Value, error) {
	return truth(a.Kind == api.Null), nil
}

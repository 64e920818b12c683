package vec

import "vidimus/api"

type unOp func(a api.Vec) api.Vec

type binOp func(a, b api.Vec) api.Vec

// unary has what may be done with a right vector.
func unary() map[string]unOp {
	return map[string]unOp{
		"not": ofOne(not),
		"inc": ofOne(func(a number) number { return plus(a, number{1}) }),
		"dec": ofOne(func(a number) number { return minus(a, number{1}) }),
		"neg": ofOne(func(a number) number { return minus(number{}, a) }),
		"redand": func(a api.Vec) api.Vec {
			return truth(numberOf(a) == mask(a.W))
		},
		"redor": func(a api.Vec) api.Vec {
			return truth(numberOf(a) != number{})
		},
		"redxor": func(a api.Vec) api.Vec {
			return truth(isOdd(numberOf(a)))
		},
	}
}

// binary has what may be done with two right vectors: of the same width, or for concat of widths that fit together.
func binary() map[string]binOp {
	return map[string]binOp{
		"and":  ofTwo(and),
		"or":   ofTwo(or),
		"xor":  ofTwo(xor),
		"add":  ofTwo(plus),
		"sub":  ofTwo(minus),
		"mul":  ofTwo(times),
		"udiv": ofTwo(quotient),
		"urem": ofTwo(remainder),
		"sll":  shifted(up),
		"srl":  shifted(down),
		"sra":  downWithSign,
		"eq": func(a, b api.Vec) api.Vec {
			return truth(Same(a, b))
		},
		"ult": func(a, b api.Vec) api.Vec {
			return truth(less(numberOf(a), numberOf(b)))
		},
		"slt": func(a, b api.Vec) api.Vec {
			return truth(isHighest(a) && !isHighest(b) ||
				isHighest(a) == isHighest(b) && less(numberOf(a), numberOf(b)))
		},
		"concat": func(a, b api.Vec) api.Vec {
			return vecOf(a.W+b.W, or(up(numberOf(a), b.W), numberOf(b)))
		},
	}
}

func ofOne(f func(a number) number) unOp {
	return func(a api.Vec) api.Vec { return vecOf(a.W, f(numberOf(a))) }
}

func ofTwo(f func(a, b number) number) binOp {
	return func(a, b api.Vec) api.Vec { return vecOf(a.W, f(numberOf(a), numberOf(b))) }
}

func shifted(f func(a number, places int) number) binOp {
	return func(a, b api.Vec) api.Vec {
		return vecOf(a.W, f(numberOf(a), places(numberOf(b), a.W)))
	}
}

// downWithSign turns the bits about the shift if the highest is 1: so the 0 that comes in becomes 1.
func downWithSign(a, b api.Vec) api.Vec {
	n, by := numberOf(a), places(numberOf(b), a.W)
	if !isHighest(a) {
		return vecOf(a.W, down(n, by))
	}
	return vecOf(a.W, not(down(xor(n, mask(a.W)), by)))
}

func quotient(a, b number) number {
	out, _ := divide(a, b)
	return out
}

func remainder(a, b number) number {
	_, rest := divide(a, b)
	return rest
}

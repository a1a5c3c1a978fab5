package pack

// What a number's greater part counts, and what a sum is less than.
const (
	great   = 256
	modulus = great * great
)

// How many bytes the numbers have in a block's runs, and in those of Index.
const (
	narrow = 1
	wide   = 2
)

// parts are the two of a number: the greater part, and the rest.
type parts complex128

func parted(n int) parts {
	return parts(complex(float64(n/great), float64(n%great)))
}

func joined(greater, rest byte) parts {
	return parts(complex(float64(greater), float64(rest)))
}

func (p parts) greater() byte {
	return byte(real(p))
}

func (p parts) rest() byte {
	return byte(imag(p))
}

func (p parts) number() int {
	return int(real(p))*great + int(imag(p))
}

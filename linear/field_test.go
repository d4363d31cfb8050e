package linear

import (
	"math/big"
	"math/rand/v2"
	"testing"
)

func TestPrimes(t *testing.T) {
	f := firstField()
	if f.prime != 1<<31-1 {
		t.Errorf("the first prime is %d", f.prime)
	}
	for range 2000 {
		want := f.prime - 1
		for !new(big.Int).SetUint64(want).ProbablyPrime(0) {
			want--
		}
		f = f.next()
		if f.prime != want {
			t.Fatalf("the next prime is %d, want %d", f.prime, want)
		}
	}
	for n := uint64(11); n < 200000; n += 2 {
		if isPrime(n) != new(big.Int).SetUint64(n).ProbablyPrime(0) {
			t.Errorf("isPrime(%d) = %v", n, isPrime(n))
		}
	}
	// The least numbers that pass the test with the first one, two or three of its bases, but are no primes.
	for _, n := range []uint64{2047, 1373653, 25326001} {
		if isPrime(n) {
			t.Errorf("%d is taken for a prime", n)
		}
	}
}

func TestResidues(t *testing.T) {
	r := rand.New(rand.NewPCG(4, 7))
	f := firstField()
	for range 50 {
		for range 200 {
			x := r.Uint64() >> r.IntN(64)
			if f.mod(x) != x%f.prime {
				t.Errorf("%d modulo %d is %d", x, f.prime, f.mod(x))
			}
			for _, x := range []uint64{x - x%f.prime, x - x%f.prime + f.prime - 1} {
				if f.mod(x) != x%f.prime {
					t.Errorf("%d modulo %d is %d", x, f.prime, f.mod(x))
				}
			}
			if a := 1 + r.Uint64N(f.prime-1); f.mul(a, f.invert(a)) != 1 {
				t.Errorf("the inverse of %d modulo %d is %d", a, f.prime, f.invert(a))
			}
		}
		f = f.next()
	}
}

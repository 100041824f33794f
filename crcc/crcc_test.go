package crcc_test

import (
	"hash/crc32"
	"math/bits"
	"math/rand"
	"strings"
	"testing"

	"flotsam/crcc"
)

// bitByBit is Extend word by word as the document has it: one bit goes in after the other.
func bitByBit(sum uint32, s string) uint32 {
	register := ^sum
	for i := 0; i < len(s); i++ {
		for bit := 0; bit < 8; bit++ {
			register ^= uint32(s[i]) >> bit & 1
			out := register & 1
			register >>= 1
			if out == 1 {
				register ^= 0x82f63b78
			}
		}
	}
	return ^register
}

func someBytes(r *rand.Rand, size int) string {
	b := make([]byte, size)
	for i := range b {
		b[i] = byte(r.Intn(256))
	}
	return string(b)
}

func rising(size int) string {
	b := make([]byte, size)
	for i := range b {
		b[i] = byte(i)
	}
	return string(b)
}

func TestSumOfKnownTexts(t *testing.T) {
	for s, want := range map[string]uint32{
		"":                         0,
		"a":                        0xc1d04330,
		"abc":                      0x364b3fb7,
		"123456789":                0xe3069283,
		strings.Repeat("\x00", 32): 0x8a9136aa,
		strings.Repeat("\xff", 32): 0x62a8ab43,
		rising(32):                 0x46dd794e,
	} {
		if n := crcc.Sum(s); n != want {
			t.Errorf("P2.1: Sum(%x): %08x, want %08x", s, n, want)
		}
	}
}

func TestSumAndExtendBitByBit(t *testing.T) {
	r := rand.New(rand.NewSource(1))
	table := crc32.MakeTable(crc32.Castagnoli)
	for b := range 256 {
		s := string([]byte{byte(b)})
		for bit := range 32 {
			if n := crcc.Extend(1<<bit, s); n != bitByBit(1<<bit, s) {
				t.Fatalf("P2.1: Extend(%x, %x): %08x", 1<<bit, s, n)
			}
		}
	}
	for size := range 300 {
		s, sum := someBytes(r, size), r.Uint32()
		if n := crcc.Sum(s); n != bitByBit(0, s) || n != crc32.Checksum([]byte(s), table) {
			t.Fatalf("P2.1: Sum(%x): %08x", s, n)
		}
		if n := crcc.Extend(sum, s); n != bitByBit(sum, s) {
			t.Fatalf("P2.1: Extend(%08x, %x): %08x", sum, s, n)
		}
	}
}

func TestExtendByNothing(t *testing.T) {
	for _, sum := range []uint32{0, 1, 1 << 31, 0x12345678, 1<<32 - 1} {
		if n := crcc.Extend(sum, ""); n != sum {
			t.Errorf("P2.1: Extend(%08x, nothing): %08x", sum, n)
		}
	}
}

func TestTwoTextsOneBehindTheOther(t *testing.T) {
	s := someBytes(rand.New(rand.NewSource(2)), 200)
	for i := 0; i <= len(s); i++ {
		if n := crcc.Extend(crcc.Sum(s[:i]), s[i:]); n != crcc.Sum(s) {
			t.Fatalf("P2.2: cut at %d: %08x, want %08x", i, n, crcc.Sum(s))
		}
	}
}

func TestTurnedBitsTurnTheSum(t *testing.T) {
	r := rand.New(rand.NewSource(3))
	s := someBytes(r, 40)
	sum := crcc.Sum(s)
	for first := 0; first < 8*len(s); first++ {
		for range 50 {
			turned := []byte(s)
			for bit, left := first, r.Uint32()|1; left != 0 && bit < 8*len(s); bit, left = bit+1, left>>1 {
				turned[bit/8] ^= byte(left&1) << (bit % 8)
			}
			if crcc.Sum(string(turned)) == sum {
				t.Fatalf("P2.2: bits turned from %d on: %x", first, turned)
			}
		}
	}
}

// TestUnlikeSumsStayUnlike asks of each bit what it turns behind the same bytes: no choice of these may turn nothing.
func TestUnlikeSumsStayUnlike(t *testing.T) {
	r := rand.New(rand.NewSource(4))
	for _, s := range []string{"", "\x00", "a", rising(4), rising(256), someBytes(r, 33)} {
		var rows [32]uint32
		for bit := range 32 {
			row := crcc.Extend(1<<bit, s) ^ crcc.Extend(0, s)
			for row != 0 && rows[bits.TrailingZeros32(row)] != 0 {
				row ^= rows[bits.TrailingZeros32(row)]
			}
			if row == 0 {
				t.Fatalf("P2.2: behind %x unlike sums become alike", s)
			}
			rows[bits.TrailingZeros32(row)] = row
		}
		one, other := r.Uint32(), r.Uint32()
		if one != other && crcc.Extend(one, s) == crcc.Extend(other, s) {
			t.Fatalf("P2.2: %08x and %08x become alike behind %x", one, other, s)
		}
	}
}

func TestThreeTextsLaidUponOneAnother(t *testing.T) {
	r := rand.New(rand.NewSource(5))
	for size := range 100 {
		a, b, c := someBytes(r, size), someBytes(r, size), someBytes(r, size)
		laid := make([]byte, size)
		for i := range laid {
			laid[i] = a[i] ^ b[i] ^ c[i]
		}
		if n := crcc.Sum(string(laid)); n != crcc.Sum(a)^crcc.Sum(b)^crcc.Sum(c) {
			t.Fatalf("P2.2: %x, %x, %x: %08x", a, b, c, n)
		}
	}
}

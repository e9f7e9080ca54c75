package place

import (
	"fmt"
	"math"
	"slices"
	"strings"
	"testing"

	"vizard/api"
)

// ip: the Ip of four bytes, made without the calls that are tested.
func ip(a, b, c, d byte) uint32 {
	return uint32(a)<<24 + uint32(b)<<16 + uint32(c)<<8 + uint32(d)
}

// manyBits are those of subnets, and all kinds that are out of bounds.
func manyBits() []int {
	bits := []int{math.MinInt, math.MinInt + 1, -1 << 32, -1<<32 + 24, -256, -232, -65, -64, -33, -32, -31, -24, -8, -1}
	for n := range 70 {
		bits = append(bits, n)
	}
	return append(bits, 127, 128, 255, 256, 264, 280, 286, 1<<16+24, 1<<32+8, 1<<32+24, 1<<32+30, math.MaxInt32, math.MaxInt-1, math.MaxInt)
}

// manyIps are those at the edges of first bytes and of subnets, and some between.
func manyIps() []uint32 {
	ips := []uint32{0, 1, 2, math.MaxUint32, math.MaxUint32 - 1, 1 << 31, 1<<31 - 1}
	for _, first := range []byte{0, 1, 2, 9, 10, 11, 126, 127, 128, 191, 192, 222, 223, 224, 239, 240, 254, 255} {
		ips = append(ips, ip(first, 0, 0, 0), ip(first, 0, 0, 1), ip(first, 0, 0, 2), ip(first, 0, 0, 3), ip(first, 0, 0, 4), ip(first, 0, 0, 255), ip(first, 0, 1, 0), ip(first, 127, 255, 255), ip(first, 128, 0, 0), ip(first, 168, 1, 129), ip(first, 255, 255, 252), ip(first, 255, 255, 254), ip(first, 255, 255, 255))
	}
	return ips
}

// power: 2 to the n.
func power(n int) uint64 {
	p := uint64(1)
	for range n {
		p *= 2
	}
	return p
}

// plainBounds: the base and the last one by numbers without end, as the multiples of how many Ips there are in it.
func plainBounds(n Net) (base, last uint64, ok bool) {
	if n.Bits < 8 || n.Bits > 30 {
		return 0, 0, false
	}
	size := power(32 - n.Bits)
	base = uint64(n.Ip) / size * size
	return base, base + size - 1, true
}

// P4.1: Base, Last, Mask and Right of ordinary subnets, and of those at the edges.
func TestNet(t *testing.T) {
	for _, c := range []struct {
		name             string
		ip               uint32
		bits             int
		base, last, mask uint32
		right            bool
	}{
		{"the chapter's example", ip(10, 0, 0, 1), 24, ip(10, 0, 0, 0), ip(10, 0, 0, 255), ip(255, 255, 255, 0), true},
		{"8 bits", ip(10, 1, 2, 3), 8, ip(10, 0, 0, 0), ip(10, 255, 255, 255), ip(255, 0, 0, 0), true},
		{"9 bits", ip(10, 129, 2, 3), 9, ip(10, 128, 0, 0), ip(10, 255, 255, 255), ip(255, 128, 0, 0), true},
		{"12 bits", ip(172, 16, 0, 1), 12, ip(172, 16, 0, 0), ip(172, 31, 255, 255), ip(255, 240, 0, 0), true},
		{"16 bits", ip(192, 168, 7, 0), 16, ip(192, 168, 0, 0), ip(192, 168, 255, 255), ip(255, 255, 0, 0), true},
		{"17 bits", ip(192, 168, 127, 255), 17, ip(192, 168, 0, 0), ip(192, 168, 127, 255), ip(255, 255, 128, 0), false},
		{"23 bits", ip(192, 168, 1, 0), 23, ip(192, 168, 0, 0), ip(192, 168, 1, 255), ip(255, 255, 254, 0), true},
		{"25 bits", ip(192, 168, 1, 129), 25, ip(192, 168, 1, 128), ip(192, 168, 1, 255), ip(255, 255, 255, 128), true},
		{"29 bits", ip(192, 168, 1, 14), 29, ip(192, 168, 1, 8), ip(192, 168, 1, 15), ip(255, 255, 255, 248), true},
		{"30 bits, the base", ip(192, 168, 1, 4), 30, ip(192, 168, 1, 4), ip(192, 168, 1, 7), ip(255, 255, 255, 252), false},
		{"30 bits, the first host", ip(192, 168, 1, 5), 30, ip(192, 168, 1, 4), ip(192, 168, 1, 7), ip(255, 255, 255, 252), true},
		{"30 bits, the second host", ip(192, 168, 1, 6), 30, ip(192, 168, 1, 4), ip(192, 168, 1, 7), ip(255, 255, 255, 252), true},
		{"30 bits, the last one", ip(192, 168, 1, 7), 30, ip(192, 168, 1, 4), ip(192, 168, 1, 7), ip(255, 255, 255, 252), false},
		{"24 bits, the base", ip(10, 0, 0, 0), 24, ip(10, 0, 0, 0), ip(10, 0, 0, 255), ip(255, 255, 255, 0), false},
		{"24 bits, the greatest host", ip(10, 0, 0, 254), 24, ip(10, 0, 0, 0), ip(10, 0, 0, 255), ip(255, 255, 255, 0), true},
		{"24 bits, the last one", ip(10, 0, 0, 255), 24, ip(10, 0, 0, 0), ip(10, 0, 0, 255), ip(255, 255, 255, 0), false},
		{"8 bits, the base", ip(10, 0, 0, 0), 8, ip(10, 0, 0, 0), ip(10, 255, 255, 255), ip(255, 0, 0, 0), false},
		{"8 bits, the last one", ip(10, 255, 255, 255), 8, ip(10, 0, 0, 0), ip(10, 255, 255, 255), ip(255, 0, 0, 0), false},
		{"7 bits", ip(10, 0, 0, 1), 7, 0, 0, 0, false},
		{"31 bits", ip(10, 0, 0, 1), 31, 0, 0, 0, false},
		{"32 bits", ip(10, 0, 0, 1), 32, 0, 0, 0, false},
		{"33 bits", ip(10, 0, 0, 1), 33, 0, 0, 0, false},
		{"0 bits", ip(10, 0, 0, 1), 0, 0, 0, 0, false},
		{"-1 bits", ip(10, 0, 0, 1), -1, 0, 0, 0, false},
		{"-24 bits", ip(10, 0, 0, 1), -24, 0, 0, 0, false},
		{"1,000,000 bits", ip(10, 0, 0, 1), 1000000, 0, 0, 0, false},
		{"2^32 + 24 bits", ip(10, 0, 0, 1), 1<<32 + 24, 0, 0, 0, false},
		{"the least bits", ip(10, 0, 0, 1), math.MinInt, 0, 0, 0, false},
		{"the most bits", ip(10, 0, 0, 1), math.MaxInt, 0, 0, 0, false},
		{"first byte 0", ip(0, 0, 0, 1), 24, 0, ip(0, 0, 0, 255), ip(255, 255, 255, 0), false},
		{"first byte 1", ip(1, 0, 0, 1), 24, ip(1, 0, 0, 0), ip(1, 0, 0, 255), ip(255, 255, 255, 0), true},
		{"first byte 126", ip(126, 0, 0, 1), 24, ip(126, 0, 0, 0), ip(126, 0, 0, 255), ip(255, 255, 255, 0), true},
		{"first byte 127", ip(127, 0, 0, 1), 8, ip(127, 0, 0, 0), ip(127, 255, 255, 255), ip(255, 0, 0, 0), false},
		{"first byte 128", ip(128, 0, 0, 1), 8, ip(128, 0, 0, 0), ip(128, 255, 255, 255), ip(255, 0, 0, 0), true},
		{"first byte 223", ip(223, 255, 255, 1), 24, ip(223, 255, 255, 0), ip(223, 255, 255, 255), ip(255, 255, 255, 0), true},
		{"first byte 224", ip(224, 0, 0, 1), 24, ip(224, 0, 0, 0), ip(224, 0, 0, 255), ip(255, 255, 255, 0), false},
		{"the Ip 0", 0, 24, 0, ip(0, 0, 0, 255), ip(255, 255, 255, 0), false},
		{"the greatest Ip", math.MaxUint32, 24, ip(255, 255, 255, 0), math.MaxUint32, ip(255, 255, 255, 0), false},
		{"nothing", 0, 0, 0, 0, 0, false},
	} {
		n := Net{Ip: c.ip, Bits: c.bits}
		if n.Base() != c.base || n.Last() != c.last || n.Mask() != c.mask {
			t.Errorf("%s: base %#x, last %#x, mask %#x, want %#x, %#x, %#x", c.name, n.Base(), n.Last(), n.Mask(), c.base, c.last, c.mask)
		}
		if n.Right() != c.right {
			t.Errorf("%s: right %v", c.name, n.Right())
		}
	}
}

// P4.1: Has and Host.
func TestHas(t *testing.T) {
	for _, c := range []struct {
		name      string
		net       Net
		ip        uint32
		has, host bool
	}{
		{"its own Ip", Net{ip(10, 0, 0, 1), 24}, ip(10, 0, 0, 1), true, true},
		{"another host", Net{ip(10, 0, 0, 1), 24}, ip(10, 0, 0, 77), true, true},
		{"the base", Net{ip(10, 0, 0, 1), 24}, ip(10, 0, 0, 0), true, false},
		{"the last one", Net{ip(10, 0, 0, 1), 24}, ip(10, 0, 0, 255), true, false},
		{"just below the base", Net{ip(10, 0, 0, 1), 24}, ip(9, 255, 255, 255), false, false},
		{"just above the last one", Net{ip(10, 0, 0, 1), 24}, ip(10, 0, 1, 0), false, false},
		{"an Ip with other first bytes", Net{ip(10, 0, 0, 1), 24}, ip(11, 0, 0, 1), false, false},
		{"an Ip with another byte between", Net{ip(10, 0, 0, 1), 24}, ip(10, 1, 0, 1), false, false},
		{"a byte 255 that isn't the last one", Net{ip(10, 0, 0, 1), 16}, ip(10, 0, 7, 255), true, true},
		{"a byte 0 that isn't the base", Net{ip(10, 0, 0, 1), 16}, ip(10, 0, 7, 0), true, true},
		{"of 30 bits, the base", Net{ip(192, 168, 1, 6), 30}, ip(192, 168, 1, 4), true, false},
		{"of 30 bits, the first host", Net{ip(192, 168, 1, 6), 30}, ip(192, 168, 1, 5), true, true},
		{"of 30 bits, the last one", Net{ip(192, 168, 1, 6), 30}, ip(192, 168, 1, 7), true, false},
		{"of 30 bits, just beyond", Net{ip(192, 168, 1, 6), 30}, ip(192, 168, 1, 8), false, false},
		{"of 8 bits, far away in it", Net{ip(10, 1, 2, 3), 8}, ip(10, 255, 255, 254), true, true},
		{"of 8 bits, the last one", Net{ip(10, 1, 2, 3), 8}, ip(10, 255, 255, 255), true, false},
		{"of a subnet that isn't right by its first byte", Net{ip(127, 0, 0, 1), 8}, ip(127, 3, 4, 5), true, true},
		{"of a subnet whose Ip is its base", Net{ip(10, 0, 0, 0), 24}, ip(10, 0, 0, 9), true, true},
		{"of a subnet whose Ip is its last one", Net{ip(10, 0, 0, 255), 24}, ip(10, 0, 0, 9), true, true},
		{"of a subnet at the greatest Ip", Net{math.MaxUint32, 30}, math.MaxUint32 - 1, true, true},
		{"the Ip 0 of a subnet there", Net{1, 24}, 0, true, false},
		{"of 7 bits, its own Ip", Net{ip(10, 0, 0, 1), 7}, ip(10, 0, 0, 1), false, false},
		{"of 31 bits, its own Ip", Net{ip(10, 0, 0, 1), 31}, ip(10, 0, 0, 1), false, false},
		{"of 32 bits, its own Ip", Net{ip(10, 0, 0, 1), 32}, ip(10, 0, 0, 1), false, false},
		{"of 0 bits, the Ip 0", Net{ip(10, 0, 0, 1), 0}, 0, false, false},
		{"of -1 bits, its own Ip", Net{ip(10, 0, 0, 1), -1}, ip(10, 0, 0, 1), false, false},
		{"of the most bits, its own Ip", Net{ip(10, 0, 0, 1), math.MaxInt}, ip(10, 0, 0, 1), false, false},
		{"of nothing, the Ip 0", Net{}, 0, false, false},
	} {
		if has := c.net.Has(c.ip); has != c.has {
			t.Errorf("%s: has %v", c.name, has)
		}
		if host := c.net.Host(c.ip); host != c.host {
			t.Errorf("%s: host %v", c.name, host)
		}
	}
}

// P4.1, P1: all of a subnet, at all kinds of Ips and Bits.
func TestNetAll(t *testing.T) {
	for _, bits := range manyBits() {
		for _, own := range manyIps() {
			n := Net{Ip: own, Bits: bits}
			base, last, ok := plainBounds(n)
			mask := uint64(0)
			if ok {
				mask = power(32) - power(32-bits)
			}
			if uint64(n.Base()) != base || uint64(n.Last()) != last || uint64(n.Mask()) != mask {
				t.Fatalf("%#x/%d: base %#x, last %#x, mask %#x", own, bits, n.Base(), n.Last(), n.Mask())
			}
			first := own / 16777216
			right := ok && uint64(own) > base && uint64(own) < last && first >= 1 && first <= 223 && first != 127
			if n.Right() != right {
				t.Fatalf("%#x/%d: right %v", own, bits, n.Right())
			}
			for _, x := range append(manyIps(), uint32(base), uint32(last), uint32(base+1), uint32(last-1), uint32(base-1), uint32(last+1), own) {
				has := ok && uint64(x) >= base && uint64(x) <= last
				host := ok && uint64(x) > base && uint64(x) < last
				if n.Has(x) != has || n.Host(x) != host {
					t.Fatalf("%#x/%d: of %#x has %v, host %v", own, bits, x, n.Has(x), n.Host(x))
				}
			}
		}
	}
}

// P4.1: Apart.
func TestApart(t *testing.T) {
	a := Net{ip(10, 0, 0, 1), 24}
	for _, c := range []struct {
		name string
		a, b Net
		want bool
	}{
		{"the next subnet", a, Net{ip(10, 0, 1, 1), 24}, true},
		{"the one before", a, Net{ip(9, 255, 255, 1), 24}, true},
		{"far away", a, Net{ip(192, 168, 1, 1), 30}, true},
		{"far away, a great one", a, Net{ip(11, 0, 0, 1), 8}, true},
		{"halves of one subnet", Net{ip(10, 0, 0, 1), 25}, Net{ip(10, 0, 0, 129), 25}, true},
		{"halves of the greatest size", Net{ip(10, 0, 0, 1), 9}, Net{ip(10, 128, 0, 1), 9}, true},
		{"neighbours of the least size", Net{ip(10, 0, 0, 1), 30}, Net{ip(10, 0, 0, 5), 30}, true},
		{"itself", a, a, false},
		{"the same with another host", a, Net{ip(10, 0, 0, 200), 24}, false},
		{"its first half", a, Net{ip(10, 0, 0, 1), 25}, false},
		{"its second half", a, Net{ip(10, 0, 0, 129), 25}, false},
		{"its last four Ips", a, Net{ip(10, 0, 0, 253), 30}, false},
		{"the first of a great one", a, Net{ip(10, 0, 1, 1), 16}, false},
		{"within the greatest one", a, Net{ip(10, 200, 0, 1), 8}, false},
		{"in the middle of a great one", Net{ip(10, 7, 7, 1), 24}, Net{ip(10, 0, 0, 1), 8}, false},
		{"the Ip is the base", a, Net{ip(10, 0, 1, 0), 24}, false},
		{"the Ip is the last one", a, Net{ip(10, 0, 1, 255), 24}, false},
		{"7 bits", a, Net{ip(20, 0, 1, 1), 7}, false},
		{"31 bits", a, Net{ip(20, 0, 1, 1), 31}, false},
		{"-1 bits", a, Net{ip(20, 0, 1, 1), -1}, false},
		{"the most bits", a, Net{ip(20, 0, 1, 1), math.MaxInt}, false},
		{"first byte 0", a, Net{ip(0, 0, 1, 1), 24}, false},
		{"first byte 127", a, Net{ip(127, 0, 1, 1), 24}, false},
		{"first byte 224", a, Net{ip(224, 0, 1, 1), 24}, false},
		{"neither is right", Net{ip(0, 0, 1, 1), 24}, Net{ip(224, 0, 1, 1), 24}, false},
		{"nothing", a, Net{}, false},
		{"twice nothing", Net{}, Net{}, false},
	} {
		if Apart(c.a, c.b) != c.want || Apart(c.b, c.a) != c.want {
			t.Errorf("%s: %v, and the other way round %v", c.name, Apart(c.a, c.b), Apart(c.b, c.a))
		}
	}
}

// P4.1, P1: Apart, of subnets of all sizes, right and wrong ones.
func TestApartAll(t *testing.T) {
	var nets []Net
	for _, bits := range []int{math.MinInt, -1, 0, 7, 8, 9, 16, 23, 24, 25, 29, 30, 31, 32, math.MaxInt} {
		for _, own := range manyIps() {
			nets = append(nets, Net{Ip: own, Bits: bits})
		}
	}
	right := func(n Net) bool {
		base, last, ok := plainBounds(n)
		first := n.Ip / 16777216
		return ok && uint64(n.Ip) > base && uint64(n.Ip) < last && first >= 1 && first <= 223 && first != 127
	}
	seen := 0
	for i := 0; i < len(nets); i += 7 {
		for _, b := range nets {
			aBase, aLast, _ := plainBounds(nets[i])
			bBase, bLast, _ := plainBounds(b)
			want := right(nets[i]) && right(b) && (aLast < bBase || bLast < aBase)
			if Apart(nets[i], b) != want {
				t.Fatalf("%v and %v: %v", nets[i], b, !want)
			}
			if want {
				seen++
			}
		}
	}
	if seen == 0 {
		t.Error("no two were apart")
	}
}

// P4.1: Single, of each first byte.
func TestSingle(t *testing.T) {
	for first := range 256 {
		want := first >= 1 && first <= 223 && first != 127
		for _, x := range []uint32{ip(byte(first), 0, 0, 0), ip(byte(first), 0, 0, 1), ip(byte(first), 127, 0, 224), ip(byte(first), 255, 255, 255)} {
			if Single(x) != want {
				t.Errorf("%#x: %v", x, !want)
			}
		}
	}
}

// rightIps are Ips with their texts.
func rightIps() map[string]uint32 {
	return map[string]uint32{
		"0.0.0.0":         0,
		"0.0.0.1":         1,
		"0.0.1.0":         256,
		"0.1.0.0":         65536,
		"1.0.0.0":         16777216,
		"1.2.3.4":         0x01020304,
		"9.10.99.100":     0x090a6364,
		"10.0.0.1":        0x0a000001,
		"10.20.30.40":     0x0a141e28,
		"100.101.109.110": 0x64656d6e,
		"127.0.0.1":       0x7f000001,
		"192.168.1.254":   0xc0a801fe,
		"199.200.249.250": 0xc7c8f9fa,
		"224.0.0.1":       0xe0000001,
		"255.255.255.254": math.MaxUint32 - 1,
		"255.255.255.255": math.MaxUint32,
	}
}

// P4.2: Text, and Parse of it.
func TestText(t *testing.T) {
	for s, want := range rightIps() {
		if got := Text(want); got != s {
			t.Errorf("Text(%#x): %q, want %q", want, got, s)
		}
		if got, e := Parse(s); got != want || e != api.OK {
			t.Errorf("Parse(%q): %#x, %v, want %#x", s, got, e, want)
		}
	}
}

// P4.2: each byte, at each of the four places, there and back.
func TestTextAll(t *testing.T) {
	for x := range 256 {
		b := byte(x)
		for _, want := range [][4]byte{{b, 1, 2, 3}, {1, b, 2, 3}, {1, 2, b, 3}, {1, 2, 3, b}, {b, b, b, b}} {
			n := ip(want[0], want[1], want[2], want[3])
			s := fmt.Sprintf("%d.%d.%d.%d", want[0], want[1], want[2], want[3])
			if got := Text(n); got != s {
				t.Errorf("Text(%#x): %q, want %q", n, got, s)
			}
			if got, e := Parse(s); got != n || e != api.OK {
				t.Errorf("Parse(%q): %#x, %v", s, got, e)
			}
		}
	}
	seed := uint32(7)
	for range 2000 {
		seed = seed*1664525 + 1013904223
		if got, e := Parse(Text(seed)); got != seed || e != api.OK {
			t.Errorf("%#x comes back as %#x, %v", seed, got, e)
		}
	}
}

// P4.2: texts of no Ip.
func TestParseWrong(t *testing.T) {
	for _, s := range []string{
		"", " ", ".", "..", "...", "....", "0", "1", "256", "4294967295", "16909060",
		"1.2", "1.2.3", "1.2.3.4.5", "0.1.2.3.4", "0.0.1.2.3", "0.0.0.0.0", "1.2.3.4.0", "1.1.2.3.4",
		"01.2.3.4", "1.02.3.4", "1.2.03.4", "1.2.3.04", "00.0.0.0", "0.0.0.00", "000.0.0.0", "1.2.3.004", "001.002.003.004",
		"256.2.3.4", "1.256.3.4", "1.2.256.4", "1.2.3.256", "1.2.3.260", "1.2.3.300", "1.2.3.999", "1.2.3.1000", "1.2.3.512", "1.2.3.65536", "1.2.3.4294967296", "1.2.3.4294967300", "1.2.3.18446744073709551616", "1.2.3.18446744073709551620", "1.2.3.99999999999999999999999999",
		"+1.2.3.4", "1.2.3.+4", "-1.2.3.4", "1.2.3.-4", "1.2.3.-0", "-0.0.0.0", "1.2.3.+0",
		" 1.2.3.4", "1.2.3.4 ", "1 .2.3.4", "1. 2.3.4", "1.2.3. ", "1.2.3.4\n", "1.2.3.4\x00", "\t1.2.3.4", "1.2.3.1 1",
		".1.2.3", "1.2.3.", ".1.2.3.4", "1.2.3.4.", "1..3.4", "1..2.3.4", "1.2..3", "1.2.3..4", ".1.2.3.",
		"1,2,3,4", "1:2:3:4", "1-2-3-4", "1.2.3:4", "1.2.3,4", "1.2,3.4", "1/2/3/4", "1 2 3 4", "1.2.3.4/24", "1234", "1。2。3。4",
		"a.b.c.d", "a.2.3.4", "1.2.3.a", "1.2.3.f", "1.2.3.A", "0x1.2.3.4", "1.2.3.0x4", "1.2.3.0b1", "1.2.3.0o7", "1.2.3.1_0", "1.2.3._4", "1.2.3.1e1", "1.2.3.4x", "x1.2.3.4", "١.٢.٣.٤", "1.2.3.\xff", "\xff\xfe",
		"::1.2.3.4", "00:1a:ff:09:90:01", "localhost",
		strings.Repeat("0", 1000) + ".0.0.0", strings.Repeat("9", 1000), strings.Repeat(".", 1000), strings.Repeat("0.", 1000) + "0", strings.Repeat("1.2.3.4", 2), strings.Repeat("0.", 100) + "1.2.3.4",
	} {
		if n, e := Parse(s); n != 0 || e != api.ErrForm {
			t.Errorf("Parse(%q): %#x, %v", s, n, e)
		}
	}
}

// rightMacs are Macs with their texts.
func rightMacs() map[string]Mac {
	return map[string]Mac{
		"00:00:00:00:00:00": {},
		"00:1a:ff:09:90:01": {0, 0x1a, 0xff, 9, 0x90, 1},
		"01:23:45:67:89:ab": {0x01, 0x23, 0x45, 0x67, 0x89, 0xab},
		"cd:ef:00:0f:f0:10": {0xcd, 0xef, 0, 0x0f, 0xf0, 0x10},
		"fe:ff:ff:ff:ff:ff": {254, 255, 255, 255, 255, 255},
		"ff:ff:ff:ff:ff:fe": {255, 255, 255, 255, 255, 254},
		"ff:ff:ff:ff:ff:ff": {255, 255, 255, 255, 255, 255},
	}
}

// P4.2: MacText, and ParseMac of it.
func TestMacText(t *testing.T) {
	for s, want := range rightMacs() {
		if got := MacText(want); got != s {
			t.Errorf("MacText(%v): %q, want %q", want, got, s)
		}
		if got, e := ParseMac(s); got != want || e != api.OK {
			t.Errorf("ParseMac(%q): %v, %v, want %v", s, got, e, want)
		}
	}
}

// P4.2: each byte, at each of the six places, there and back.
func TestMacTextAll(t *testing.T) {
	for x := range 256 {
		for at := range 6 {
			m := Mac{0x10, 0x32, 0x54, 0x76, 0x98, 0xba}
			m[at] = byte(x)
			s := fmt.Sprintf("%02x:%02x:%02x:%02x:%02x:%02x", m[0], m[1], m[2], m[3], m[4], m[5])
			if got := MacText(m); got != s {
				t.Errorf("MacText(%v): %q, want %q", m, got, s)
			}
			if got, e := ParseMac(s); got != m || e != api.OK {
				t.Errorf("ParseMac(%q): %v, %v", s, got, e)
			}
		}
	}
}

// P4.2: texts of no Mac.
func TestParseMacWrong(t *testing.T) {
	for _, s := range []string{
		"", " ", ":", "::::", ":::::", "::::::", "00", "0", "001aff099001",
		"00:1a:ff:09:90", "00:1a:ff:09:90:01:02", "00:00:00:00:00:00:00", "00:00:00:00:00", "00:00:00:00:00:00:01", "01:00:00:00:00:00:00",
		"0:1a:ff:09:90:01", "00:1a:ff:9:90:01", "00:1a:ff:09:90:1", "0:0:0:0:0:0", "000:1a:ff:09:90:1", "000:1a:ff:09:90:01", "00:1a:ff:09:90:001", "00:1a:0ff:09:90:01",
		"100:1a:ff:09:90:01", "00:1a:ff:09:90:100", "00:1a:ff:09:90:fff", "00:1a:ff:09:90:256", "00:1a:ff:09:90:ffffffffffffffff", "00:1a:ff:09:90:10000000000000001",
		"00:1A:ff:09:90:01", "00:1a:FF:09:90:01", "00:1a:Ff:09:90:01", "00:1a:fF:09:90:01", "0A:00:00:00:00:00", "00:00:00:00:00:0F",
		"+0:1a:ff:09:90:01", "00:1a:ff:09:90:+1", "-0:1a:ff:09:90:01", "00:1a:ff:09:90:-1", "00:1a:ff:09:90:+01",
		" 00:1a:ff:09:90:01", "00:1a:ff:09:90:01 ", "00: 1:ff:09:90:01", "00:1 :ff:09:90:01", "00:1a:ff:09:90:01\n", "00:1a:ff:09:90:01\x00", "00:1a:ff:09:90: 1",
		":00:1a:ff:09:90", "00:1a:ff:09:90:", ":00:1a:ff:09:90:01", "00:1a:ff:09:90:01:", "00::ff:09:90:01", "00::1a:ff:09:90:01", "00:1a:ff::09:90",
		"00-1a-ff-09-90-01", "00.1a.ff.09.90.01", "001a.ff09.9001", "00 1a ff 09 90 01", "00:1a:ff-09:90:01", "00:1a:ff:09:90.01", "00:1a:ff:09:9001", "00;1a;ff;09;90;01",
		"00:1a:ff:09:90:0g", "0g:1a:ff:09:90:01", "00:1a:gg:09:90:01", "0x:1a:ff:09:90:01", "00:1a:ff:09:90:0x1", "0x00:1a:ff:09:90:01", "00:1a:ff:09:90:0_", "00:1a:ff:09:90:0_1", "00:1a:ff:09:90:0`", "00:1a:ff:09:90:0/", "00:1a:ff:09:90:\xff", "\xff\xff", "00:1a:ff:09:90:é",
		"10.0.0.1", "hello",
		strings.Repeat(":", 1000), strings.Repeat("00:", 1000) + "00", strings.Repeat("0", 1000), strings.Repeat("00:", 100) + "00:1a:ff:09:90:01", strings.Repeat("00:1a:ff:09:90:01", 2),
	} {
		if m, e := ParseMac(s); m != (Mac{}) || e != api.ErrForm {
			t.Errorf("ParseMac(%q): %v, %v", s, m, e)
		}
	}
}

// P4.2: a text of an Ip or a Mac of which one byte is another one, or too many, or missing, is the other's own text, or none.
func TestParseNearly(t *testing.T) {
	for _, s := range slices.Concat(nearly("10.0.0.1"), nearly("255.255.255.255"), nearly("0.0.0.0"), nearly("192.168.100.9")) {
		n, e := Parse(s)
		var a, b, c, d uint64
		k, _ := fmt.Sscanf(s, "%d.%d.%d.%d", &a, &b, &c, &d)
		right := k == 4 && max(a, b, c, d) <= 255 && fmt.Sprintf("%d.%d.%d.%d", a, b, c, d) == s
		if right && (e != api.OK || n != uint32(a<<24|b<<16|c<<8|d)) || !right && (e != api.ErrForm || n != 0) {
			t.Errorf("Parse(%q): %#x, %v", s, n, e)
		}
	}
	for _, s := range nearly("09:af:00:ff:1a:90") {
		m, e := ParseMac(s)
		right := len(s) == 17
		for i := 0; right && i < len(s); i++ {
			right = i%3 == 2 && s[i] == ':' || i%3 < 2 && strings.IndexByte("0123456789abcdef", s[i]) >= 0
		}
		if right != (e == api.OK) || right && fmt.Sprintf("% x", m[:]) != strings.ReplaceAll(s, ":", " ") || !right && (e != api.ErrForm || m != (Mac{})) {
			t.Errorf("ParseMac(%q): %v, %v", s, m, e)
		}
	}
}

// nearly: all texts that are one byte away from one.
func nearly(s string) []string {
	var out []string
	for i := range len(s) + 1 {
		for c := range 256 {
			out = append(out, s[:i]+string([]byte{byte(c)})+s[i:])
			if i < len(s) {
				out = append(out, s[:i]+string([]byte{byte(c)})+s[i+1:])
			}
		}
		if i < len(s) {
			out = append(out, s[:i]+s[i+1:])
		}
	}
	return out
}

// P4.2: All and Group.
func TestAllGroup(t *testing.T) {
	if m := All(); m != (Mac{255, 255, 255, 255, 255, 255}) || !Group(m) {
		t.Errorf("All: %v", m)
	}
	m := All()
	m[0] = 0
	if All() != (Mac{255, 255, 255, 255, 255, 255}) {
		t.Error("All is another one by what was done with its answer")
	}
	for x := range 256 {
		odd := x/2*2 != x
		for _, m := range []Mac{{byte(x)}, {byte(x), 1, 1, 1, 1, 1}, {byte(x), 255, 255, 255, 255, 255}, {byte(x), 2, 4, 6, 8, 10}} {
			if Group(m) != odd {
				t.Errorf("Group(%v): %v", m, !odd)
			}
		}
	}
}

// Rule 8: Macs and subnets may be compared, and be keys of maps.
func TestCompared(t *testing.T) {
	macs := map[Mac]int{All(): 1, {}: 2}
	nets := map[Net]int{{ip(10, 0, 0, 1), 24}: 1, {ip(10, 0, 0, 1), 25}: 2}
	if macs[Mac{255, 255, 255, 255, 255, 255}] != 1 || macs[Mac{}] != 2 || macs[Mac{0, 0, 0, 0, 0, 1}] != 0 {
		t.Error(macs)
	}
	if nets[Net{Ip: ip(10, 0, 0, 1), Bits: 24}] != 1 || nets[Net{Ip: ip(10, 0, 0, 1), Bits: 25}] != 2 || nets[Net{Ip: ip(10, 0, 0, 2), Bits: 24}] != 0 {
		t.Error(nets)
	}
}

// The parts of a text: each of them, again from the beginning, and left early.
func TestParts(t *testing.T) {
	for _, c := range []struct {
		s    string
		want []string
	}{
		{"", []string{""}},
		{"a", []string{"a"}},
		{".", []string{"", ""}},
		{"a.b", []string{"a", "b"}},
		{".a..b.", []string{"", "a", "", "b", ""}},
	} {
		all := parts(c.s, ".")
		for range 2 {
			if got := slices.Collect(all); !slices.Equal(got, c.want) {
				t.Errorf("parts(%q): %q, want %q", c.s, got, c.want)
			}
		}
		for part := range all {
			if part != c.want[0] {
				t.Errorf("parts(%q) begins with %q", c.s, part)
			}
			break
		}
	}
}

// FuzzParse: whatever comes back has just this text, and what doesn't is nothing.
func FuzzParse(f *testing.F) {
	for s := range rightIps() {
		f.Add(s)
	}
	for s := range rightMacs() {
		f.Add(s)
	}
	f.Fuzz(func(t *testing.T, s string) {
		n, e := Parse(s)
		if e == api.OK && Text(n) != s || e != api.OK && (e != api.ErrForm || n != 0) {
			t.Errorf("Parse(%q): %#x, %v", s, n, e)
		}
		m, e := ParseMac(s)
		if e == api.OK && MacText(m) != s || e != api.OK && (e != api.ErrForm || m != (Mac{})) {
			t.Errorf("ParseMac(%q): %v, %v", s, m, e)
		}
	})
}

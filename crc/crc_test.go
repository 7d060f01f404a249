package crc

import (
	"bytes"
	"sync"
	"testing"
)

// divided is the check worked out in another way: the rest of the bytes' bits, 16 noughts behind them, the first 16 of all these turned round, divided by the polynomial.
func divided(b []byte) uint16 {
	bits := make([]byte, 8*len(b)+16)
	for i := range 8 * len(b) {
		bits[i] = b[i/8] >> (7 - i%8) & 1
	}
	for i := range 16 {
		bits[i] ^= 1
	}
	divisor := []byte{1, 0, 0, 0, 1, 0, 0, 0, 0, 0, 0, 1, 0, 0, 0, 0, 1}
	for i := range 8 * len(b) {
		if bits[i] == 1 {
			for j, d := range divisor {
				bits[i+j] ^= d
			}
		}
	}
	rest := uint16(0)
	for _, bit := range bits[8*len(b):] {
		rest = rest<<1 | uint16(bit)
	}
	return rest
}

// pattern is n bytes of many values, in no simple order.
func pattern(n int) []byte {
	b := make([]byte, n)
	for i := range b {
		b[i] = byte(i*i + 7*i)
	}
	return b
}

// rising is the bytes from 0 to 255.
func rising() []byte {
	b := make([]byte, 256)
	for i := range b {
		b[i] = byte(i)
	}
	return b
}

func TestSum(t *testing.T) {
	for _, c := range []struct {
		name string
		b    []byte
		want uint16
	}{
		{"the chapter's example", []byte("123456789"), 0x29b1},
		{"the example, its check behind it", []byte("123456789\x29\xb1"), 0},
		{"the example turned round", []byte("987654321"), 0x84df},
		{"nil", nil, 0xffff},
		{"an empty list", []byte{}, 0xffff},
		{"a list with memory, but no length", make([]byte, 0, 16), 0xffff},
		{"one nought", []byte{0}, 0xe1f0},
		{"two noughts", []byte{0, 0}, 0x1d0f},
		{"1", []byte{1}, 0xf1d1},
		{"128", []byte{128}, 0x7078},
		{"255", []byte{255}, 0xff00},
		{"255 twice", []byte{255, 255}, 0},
		{"a letter", []byte("A"), 0xb915},
		{"a frame's first bytes", []byte{2, 1, 1, 2}, 0x4deb},
		{"every byte, rising", rising(), 0x3fbd},
	} {
		if got := Sum(c.b); got != c.want {
			t.Errorf("%s: Sum = %04x, want %04x", c.name, got, c.want)
		}
	}
}

func TestSumOfManyBytes(t *testing.T) {
	for _, c := range []struct {
		name string
		b    []byte
		want uint16
	}{
		{"noughts till the register is back at its beginning", make([]byte, 32767), 0xffff},
		{"65536 noughts", make([]byte, 65536), 0x1d0f},
		{"a million letters", bytes.Repeat([]byte("a"), 1000000), 0x5924},
		{"2^20 bytes of many values", pattern(1 << 20), 0x3161},
	} {
		if got := Sum(c.b); got != c.want {
			t.Errorf("%s: Sum = %04x, want %04x", c.name, got, c.want)
		}
	}
}

func TestSumByDivision(t *testing.T) {
	for first := range 256 {
		one := []byte{byte(first)}
		if got, want := Sum(one), divided(one); got != want {
			t.Fatalf("Sum of %x = %04x, want %04x", one, got, want)
		}
		for second := range 256 {
			two := []byte{byte(first), byte(second)}
			if got, want := Sum(two), divided(two); got != want {
				t.Fatalf("Sum of %x = %04x, want %04x", two, got, want)
			}
		}
	}
	b := pattern(600)
	for n := range len(b) + 1 {
		if got, want := Sum(b[:n]), divided(b[:n]); got != want {
			t.Fatalf("Sum of %d bytes = %04x, want %04x", n, got, want)
		}
	}
}

func TestOneOtherByteIsAnotherCheck(t *testing.T) {
	for _, b := range [][]byte{
		{0}, {255}, {0, 0}, {255, 255}, []byte("123456789"), {2, 1, 1, 2}, {1, 0, 255, 255, 0, 5, 255, 255, 255, 255}, make([]byte, 20), rising(),
	} {
		want := Sum(b)
		for at, was := range b {
			for by := 1; by < 256; by++ {
				b[at] = was ^ byte(by)
				if Sum(b) == want {
					t.Fatalf("%d bytes, that at %d is %d instead of %d: the check is %04x all the same", len(b), at, b[at], was, want)
				}
			}
			b[at] = was
		}
	}
}

// TestOneOtherByteOfMany goes far past 32767 bits: two other bits that lie so far apart do not show, one other byte does, wherever it lies.
func TestOneOtherByteOfMany(t *testing.T) {
	b := pattern(70000)
	want := Sum(b)
	for _, at := range []int{0, 1, 4095, 4096, 32766, 32767, 37232, 65535, 65536, 69998, 69999} {
		was := b[at]
		for _, by := range []byte{1, 2, 4, 8, 16, 32, 64, 128, 255, 0x10, 0x21, 0x81} {
			b[at] = was ^ by
			if Sum(b) == want {
				t.Fatalf("the byte at %d is %d instead of %d: the check is %04x all the same", at, b[at], was, want)
			}
		}
		b[at] = was
	}
}

func TestBytesAreLeftAsTheyAre(t *testing.T) {
	for _, n := range []int{0, 1, 2, 9, 256, 5000} {
		whole := pattern(n + 32)
		was := bytes.Clone(whole)
		Sum(whole[:n])
		if !bytes.Equal(whole, was) {
			t.Errorf("%d bytes: they, or what lies behind them, are changed", n)
		}
	}
}

func TestWhatLiesBehindTheLengthIsNotRead(t *testing.T) {
	whole := []byte("123456789 and more")
	for by := range 256 {
		for i := 9; i < len(whole); i++ {
			whole[i] = byte(by)
		}
		if got := Sum(whole[:9]); got != 0x29b1 {
			t.Fatalf("with %d behind the nine bytes: Sum = %04x, want 29b1", by, got)
		}
	}
}

func TestNothingIsKept(t *testing.T) {
	b := []byte("123456789")
	for range 3 {
		Sum(pattern(77))
		if got := Sum(b); got != 0x29b1 {
			t.Fatalf("behind another call: Sum = %04x, want 29b1", got)
		}
		if got := Sum(nil); got != 0xffff {
			t.Fatalf("behind another call: Sum of nothing = %04x, want ffff", got)
		}
	}
	Sum(b)
	copy(b, "987654321")
	if got := Sum(b); got != 0x84df {
		t.Errorf("the same memory with other bytes: Sum = %04x, want 84df", got)
	}
}

func TestCallsSideBySide(t *testing.T) {
	b := pattern(1000)
	want := divided(b)
	got := make([]uint16, 8)
	var all sync.WaitGroup
	for i := range got {
		all.Go(func() {
			for range 50 {
				got[i] = Sum(b)
				if got[i] != want {
					return
				}
			}
		})
	}
	all.Wait()
	for i, g := range got {
		if g != want {
			t.Errorf("caller %d: Sum = %04x, want %04x", i, g, want)
		}
	}
}

func TestRegisterMovesUp(t *testing.T) {
	for _, c := range []struct {
		name     string
		from, to register
		moves    int
	}{
		{"nought stays nought", 0, 0, 16},
		{"1 goes up", 1, 0x8000, 15},
		{"the bit falls out", 0x8000, 0x1021, 1},
		{"it falls out beside others", 0xffff, 0xefdf, 1},
		{"none falls out", 0x7fff, 0xfffe, 1},
	} {
		r := c.from
		for range c.moves {
			r.up()
		}
		if r != c.to {
			t.Errorf("%s: %04x moved up %d times is %04x, want %04x", c.name, c.from, c.moves, r, c.to)
		}
	}
}

// TestRegisterTakesBytes begins at 0, so that what comes out is the byte's own share alone.
func TestRegisterTakesBytes(t *testing.T) {
	for _, c := range []struct {
		b    byte
		want register
	}{{0, 0}, {1, 0x1021}, {2, 0x2042}, {16, 0x1231}, {128, 0x9188}, {255, 0x1ef0}} {
		var r register
		r.take(c.b)
		if r != c.want {
			t.Errorf("0 that took the byte %d is %04x, want %04x", c.b, r, c.want)
		}
	}
}

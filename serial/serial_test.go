package serial

import (
	"math"
	"testing"
)

func TestLess(t *testing.T) {
	for _, c := range []struct {
		name string
		a, b uint16
		want bool
	}{
		{"the chapter's example", 65535, 2, true},
		{"the example turned round", 2, 65535, false},
		{"one ahead", 7, 8, true},
		{"one behind", 8, 7, false},
		{"equal at 0", 0, 0, false},
		{"equal at 32768", 32768, 32768, false},
		{"equal at 65535", 65535, 65535, false},
		{"32767 apart", 0, 32767, true},
		{"32767 apart, turned round", 32767, 0, false},
		{"32768 apart", 0, 32768, false},
		{"32768 apart, turned round", 32768, 0, false},
		{"32769 apart", 0, 32769, false},
		{"32769 apart, turned round", 32769, 0, true},
		{"32767 apart over the end", 40000, 7231, true},
		{"32768 apart over the end", 40000, 7232, false},
		{"32769 apart over the end", 40000, 7233, false},
		{"from 65535 to 0", 65535, 0, true},
		{"from 0 to 65535", 0, 65535, false},
		{"32767 behind the last one", 65535, 32766, true},
		{"32768 behind the last one", 65535, 32767, false},
	} {
		if got := Less(c.a, c.b); got != c.want {
			t.Errorf("%s: Less(%d, %d) = %v, want %v", c.name, c.a, c.b, got, c.want)
		}
	}
}

// TestLessByCounting goes every distance from several beginnings, so that no one distance is special by chance.
func TestLessByCounting(t *testing.T) {
	for _, a := range []uint16{0, 1, 2, 255, 256, 32766, 32767, 32768, 32769, 40000, 65534, 65535} {
		for d := range 65536 {
			b := uint16((int(a) + d) % 65536)
			want := d >= 1 && d <= 32767
			if got := Less(a, b); got != want {
				t.Fatalf("Less(%d, %d), %d apart: %v, want %v", a, b, d, got, want)
			}
		}
	}
}

func TestWiden(t *testing.T) {
	const top = math.MaxUint64
	for _, c := range []struct {
		name string
		near uint64
		s    uint16
		want uint64
	}{
		{"example: over the end", 65530, 3, 65539},
		{"example: back over the end", 65539, 65535, 65535},
		{"example: two equally near", 32768, 0, 0},
		{"itself", 70000, 70000 - 65536, 70000},
		{"32767 ahead", 100000, uint16(132767 % 65536), 132767},
		{"32768 apart, the lesser one", 100000, uint16(132768 % 65536), 67232},
		{"32767 behind", 100000, uint16(67233 % 65536), 67233},
		{"equally near, further up", 65536 + 32768, 0, 65536},
		{"equally near, beyond 32 bits", 1<<40 + 32768, 0, 1 << 40},
		{"0 at 0", 0, 0, 0},
		{"ahead of 0", 0, 32767, 32767},
		{"behind 0", 0, 65535, top},
		{"equally near to 0", 0, 32768, top - 32767},
		{"equally near to 1", 1, 32769, top - 32766},
		{"32767 behind 0", 0, 32769, top - 32766},
		{"below 32768, the lesser one past 0", 32767, 65535, top},
		{"the last one", top, 65535, top},
		{"ahead of the last one", top, 0, 0},
		{"32767 ahead of the last one", top, 32766, 32766},
		{"equally near to the last one", top, 32767, top - 32768},
		{"behind the last one", top, 65534, top - 1},
		{"equally near to 2^64 - 32768", top - 32767, 0, top - 65535},
		{"32767 ahead of 2^64 - 32767", top - 32766, 0, 0},
	} {
		if got := Widen(c.near, c.s); got != c.want {
			t.Errorf("%s: Widen(%d, %d) = %d, want %d", c.name, c.near, c.s, got, c.want)
		}
	}
}

// TestWidenByItsWords holds every short number, near several long ones, against the chapter's own words: only one number meets both of them.
func TestWidenByItsWords(t *testing.T) {
	for _, near := range []uint64{
		0, 1, 32766, 32767, 32768, 32769, 65535, 65536, 98304, 1 << 31, 1 << 32, 1<<48 + 12345, 1 << 63,
		math.MaxUint64 - 65536, math.MaxUint64 - 65535, math.MaxUint64 - 32768, math.MaxUint64 - 32767, math.MaxUint64 - 32766, math.MaxUint64 - 1, math.MaxUint64,
	} {
		for s := range 65536 {
			got := Widen(near, uint16(s))
			if got%65536 != uint64(s) {
				t.Fatalf("Widen(%d, %d) = %d: short it is %d", near, s, got, got%65536)
			}
			if got+32768-near >= 65536 {
				t.Fatalf("Widen(%d, %d) = %d: not the nearest, or not the lesser one", near, s, got)
			}
		}
	}
}

func TestShortOfAnySize(t *testing.T) {
	type counted uint64
	for _, c := range []struct {
		name      string
		got, want uint16
	}{
		{"uint8", short(uint8(255)), 255},
		{"uint16", short(uint16(65535)), 65535},
		{"uint32", short(uint32(1<<31 + 65536 + 9)), 9},
		{"uint64", short(uint64(math.MaxUint64)), 65535},
		{"int", short(-1), 65535},
		{"int8", short(int8(-128)), 65408},
		{"int64", short(int64(math.MinInt64)), 0},
		{"a type of its own", short(counted(65537)), 1},
	} {
		if c.got != c.want {
			t.Errorf("short of %s: %d, want %d", c.name, c.got, c.want)
		}
	}
}

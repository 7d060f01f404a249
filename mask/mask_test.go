package mask

import (
	"math"
	"slices"
	"strconv"
	"strings"
	"sync"
	"testing"
)

// nowhere are numbers that are none of 0 to 16.
var nowhere = []int{-1, -2, -15, -16, -17, -31, -32, -63, -64, -65, -256, 17, 18, 31, 32, 33, 47, 48, 63, 64, 65, 79, 128, 255, 256, 257, 65535, 65536, 65537, 1<<31 - 1, 1 << 31, 1 << 32, 1<<32 + 1, 1<<32 + 5, -1 << 31, -1 << 32, math.MaxInt, math.MaxInt - 1, math.MinInt, math.MinInt + 1, math.MinInt + 3}

// some are masks: none, all, each one alone, all but one, halves, and some in no simple order.
func some() []uint16 {
	all := []uint16{0, 0xffff, 0x00ff, 0xff00, 0x5555, 0xaaaa, 0x0f0f, 0xf0f0, 0x8001, 0x7ffe, 22}
	for i := range 16 {
		all = append(all, 1<<i, ^uint16(1<<i), 1<<i-1)
	}
	x := uint32(7)
	for range 40 {
		x = x*1664525 + 1013904223
		all = append(all, uint16(x>>16))
	}
	return all
}

// digits tell a mask in another way: its digits of base 2, that of 1 at the front, 16 in all.
func digits(m uint16) string {
	highest := strconv.FormatUint(1<<16|uint64(m), 2)[1:]
	turned := []byte(highest)
	slices.Reverse(turned)
	return string(turned)
}

// picked is Pick by digits: those from a place on, then those ahead of it.
func picked(digits string, from, n int) int {
	ahead := strings.IndexByte(digits[from:n], '1')
	if ahead >= 0 {
		return from + ahead
	}
	return strings.IndexByte(digits[:from], '1')
}

func TestHas(t *testing.T) {
	for m := range 1 << 16 {
		d := digits(uint16(m))
		for i := range 16 {
			if got, want := Has(uint16(m), i), d[i] == '1'; got != want {
				t.Fatalf("Has(%d, %d) = %v, want %v", m, i, got, want)
			}
		}
	}
}

func TestHasNoneBeside(t *testing.T) {
	for _, m := range some() {
		for _, i := range append([]int{16}, nowhere...) {
			if Has(m, i) {
				t.Errorf("Has(%d, %d) = true", m, i)
			}
		}
	}
}

func TestCount(t *testing.T) {
	for m := range 1 << 16 {
		if got, want := Count(uint16(m)), strings.Count(digits(uint16(m)), "1"); got != want {
			t.Fatalf("Count(%d) = %d, want %d", m, got, want)
		}
	}
}

func TestBits(t *testing.T) {
	for _, c := range []struct {
		m    uint16
		want []int
	}{
		{0, nil},
		{1, []int{0}},
		{22, []int{1, 2, 4}},
		{0x8000, []int{15}},
		{0x8001, []int{0, 15}},
		{0xffff, []int{0, 1, 2, 3, 4, 5, 6, 7, 8, 9, 10, 11, 12, 13, 14, 15}},
	} {
		if got := Bits(c.m); !slices.Equal(got, c.want) {
			t.Errorf("Bits(%d) = %v, want %v", c.m, got, c.want)
		}
	}
}

func TestBitsOfAllMasks(t *testing.T) {
	for m := range 1 << 16 {
		d := digits(uint16(m))
		var want []int
		for i := range d {
			if d[i] == '1' {
				want = append(want, i)
			}
		}
		if got := Bits(uint16(m)); !slices.Equal(got, want) {
			t.Fatalf("Bits(%d) = %v, want %v", m, got, want)
		}
	}
}

// TestBitsAreNew writes what was told, up to its capacity, and asks again.
func TestBitsAreNew(t *testing.T) {
	for _, m := range some() {
		one, two := Bits(m), Bits(m)
		was := slices.Clone(two)
		one = one[:cap(one)]
		for i := range one {
			one[i] = -7
		}
		if !slices.Equal(two, was) || !slices.Equal(Bits(m), was) {
			t.Fatalf("Bits(%d) share memory: %v, want %v", m, two, was)
		}
	}
}

func TestPick(t *testing.T) {
	for _, c := range []struct {
		name    string
		m       uint16
		from, n int
		want    int
	}{
		{"the chapter's example", 0b10110, 3, 5, 4},
		{"the example, from the beginning on", 0b10110, 0, 5, 1},
		{"from one that is in it", 0b10110, 1, 5, 1},
		{"the next one", 0b10110, 2, 5, 2},
		{"the last one", 0b10110, 4, 5, 4},
		{"round, for 4 is none of 0 to 3", 0b10110, 3, 4, 1},
		{"none below n", 0b10110, 0, 1, -1},
		{"round, up to the one ahead of it", 0b0100, 3, 4, 2},
		{"one of one", 1, 0, 1, 0},
		{"none", 0, 0, 16, -1},
		{"the highest", 0x8000, 0, 16, 15},
		{"the highest is none of 0 to 14", 0x8000, 0, 15, -1},
		{"round from the highest", 1, 15, 16, 0},
		{"from the end", 0b10110, 5, 5, -1},
		{"from behind the end", 0b10110, 6, 5, -1},
		{"from ahead of 0", 0b10110, -1, 5, -1},
		{"of 0", 0xffff, 0, 0, -1},
		{"of 17", 0xffff, 0, 17, -1},
		{"from 16 of 17", 0xffff, 16, 17, -1},
		{"of fewer than none", 0xffff, 0, -1, -1},
		{"from ahead of 0, of fewer than none", 0xffff, -2, -1, -1},
	} {
		if got := Pick(c.m, c.from, c.n); got != c.want {
			t.Errorf("%s: Pick(%b, %d, %d) = %d, want %d", c.name, c.m, c.from, c.n, got, c.want)
		}
	}
}

func TestPickOfAllMasks(t *testing.T) {
	for m := range 1 << 16 {
		d := digits(uint16(m))
		for n := 1; n <= 16; n++ {
			for from := range n {
				if got, want := Pick(uint16(m), from, n), picked(d, from, n); got != want {
					t.Fatalf("Pick(%d, %d, %d) = %d, want %d", m, from, n, got, want)
				}
			}
		}
	}
}

func TestPickWhereThereIsNoPlace(t *testing.T) {
	wantNone := func(m uint16, from, n int) {
		t.Helper()
		if got := Pick(m, from, n); got != -1 {
			t.Errorf("Pick(%d, %d, %d) = %d, want -1", m, from, n, got)
		}
	}
	for _, m := range some() {
		for n := 1; n <= 16; n++ {
			for from := n; from <= 17; from++ {
				wantNone(m, from, n)
			}
			for _, from := range nowhere {
				wantNone(m, from, n)
			}
		}
		for _, n := range append([]int{0}, nowhere...) {
			for from := range 18 {
				wantNone(m, from, n)
			}
			wantNone(m, n, n)
			wantNone(m, n-1, n)
			wantNone(m, -1, n)
		}
	}
}

// TestEachBrokenOff breaks off behind each of its steps, and ranges over the same ones again: what was told ahead of that is not missed.
func TestEachBrokenOff(t *testing.T) {
	for _, m := range some() {
		all := each(m)
		want := Bits(m)
		for steps := range len(want) {
			var got []int
			for i := range all {
				got = append(got, i)
				if len(got) == steps+1 {
					break
				}
			}
			if !slices.Equal(got, want[:steps+1]) {
				t.Fatalf("%d, broken off behind %d: %v, want %v", m, steps+1, got, want[:steps+1])
			}
		}
	}
}

func TestRound(t *testing.T) {
	for n := 1; n <= 16; n++ {
		for from := range n {
			var want []int
			for i := from; i < n; i++ {
				want = append(want, i)
			}
			for i := range from {
				want = append(want, i)
			}
			if got := slices.Collect(round(from, n)); !slices.Equal(got, want) {
				t.Fatalf("from %d of %d: %v, want %v", from, n, got, want)
			}
			for i := range round(from, n) {
				if i != from {
					t.Fatalf("from %d of %d: the first is %d", from, n, i)
				}
				break
			}
		}
	}
}

func TestCallsSideBySide(t *testing.T) {
	rows := []uint16{1, 3, 0x8000, 0xffff}
	var all sync.WaitGroup
	wrong := make([]bool, 8)
	for i := range wrong {
		all.Go(func() {
			for range 200 {
				turned := Turn(rows, 2)
				wrong[i] = wrong[i] || !slices.Equal(turned, []uint16{11, 10}) || !slices.Equal(Bits(22), []int{1, 2, 4}) || Pick(22, 3, 5) != 4
			}
		})
	}
	all.Wait()
	if slices.Contains(wrong, true) {
		t.Errorf("callers were told something else: %v", wrong)
	}
}

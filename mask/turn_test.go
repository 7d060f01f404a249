package mask

import (
	"slices"
	"testing"
)

// many are n masks in no simple order, another row for each seed.
func many(seed uint32, n int) []uint16 {
	var rows []uint16
	x := seed*977 + 5
	for range n {
		x = x*1664525 + 1013904223
		rows = append(rows, uint16(x>>16))
	}
	return rows
}

// turned is Turn by digits, bit by bit; n must be 1 to 16.
func turned(rows []uint16, n int) []uint16 {
	columns := make([]uint16, n)
	for k := range n {
		value := uint16(1)
		for i := 0; i < len(rows) && i < 16; i++ {
			if digits(rows[i])[k] == '1' {
				columns[k] += value
			}
			value += value
		}
	}
	return columns
}

func wantTurned(t *testing.T, rows []uint16, n int, want ...uint16) {
	t.Helper()
	if got := Turn(rows, n); !slices.Equal(got, want) {
		t.Fatalf("Turn(%v, %d) = %v, want %v", rows, n, got, want)
	}
}

func TestTurn(t *testing.T) {
	wantTurned(t, []uint16{1, 3}, 2, 3, 2)
	wantTurned(t, []uint16{2, 0}, 2, 0, 1)
	wantTurned(t, []uint16{0, 1}, 2, 2, 0)
	wantTurned(t, []uint16{1}, 1, 1)
	wantTurned(t, []uint16{0b110}, 1, 0)
	wantTurned(t, []uint16{0b101, 0b110, 0b011}, 3, 0b101, 0b110, 0b011)
	wantTurned(t, []uint16{0b111, 0, 0}, 3, 1, 1, 1)
	wantTurned(t, []uint16{1, 1, 1}, 3, 0b111, 0, 0)
}

// TestTurnOtherThanSquare: rows may be fewer than columns, or more, or none, and their bits may lie behind the columns.
func TestTurnOtherThanSquare(t *testing.T) {
	wantTurned(t, []uint16{0xffff}, 3, 1, 1, 1)
	wantTurned(t, []uint16{0xfffc}, 2, 0, 0)
	wantTurned(t, []uint16{8, 9}, 3, 2, 0, 0)
	wantTurned(t, []uint16{1, 2, 3, 4}, 2, 0b0101, 0b0110)
	wantTurned(t, []uint16{0xffff, 1, 0xfffe}, 1, 0b011)
	for n := 1; n <= 16; n++ {
		wantTurned(t, nil, n, make([]uint16, n)...)
		wantTurned(t, []uint16{}, n, make([]uint16, n)...)
		wantTurned(t, make([]uint16, 16), n, make([]uint16, n)...)
	}
}

func TestTurnByDigits(t *testing.T) {
	for n := 1; n <= 16; n++ {
		for length := range 20 {
			for seed := range uint32(20) {
				rows := many(seed, length)
				wantTurned(t, rows, n, turned(rows, n)...)
			}
		}
		for i := range 16 {
			for _, m := range some() {
				rows := make([]uint16, 16)
				rows[i] = m
				wantTurned(t, rows, n, turned(rows, n)...)
			}
		}
	}
}

// TestTurnTheFirst16: what lies behind them tells nothing, however many there are.
func TestTurnTheFirst16(t *testing.T) {
	wantTurned(t, slices.Repeat([]uint16{1}, 17), 1, 0xffff)
	wantTurned(t, append(make([]uint16, 16), 0xffff, 0xffff), 2, 0, 0)
	for n := 1; n <= 16; n++ {
		for _, length := range []int{16, 17, 18, 32, 33, 64, 65, 100, 1 << 16, 1<<16 + 1} {
			rows := many(uint32(length), length)
			wantTurned(t, rows, n, turned(rows[:16], n)...)
		}
	}
}

func TestTurnWhereThereAreNoColumns(t *testing.T) {
	for _, n := range append([]int{0}, nowhere...) {
		for _, rows := range [][]uint16{nil, {}, {1}, {1, 3}, many(1, 16), many(2, 17)} {
			if got := Turn(rows, n); len(got) != 0 {
				t.Errorf("Turn(%v, %d) are %d masks, want none", rows, n, len(got))
			}
		}
	}
}

// square are n rows without bits from n on.
func square(seed uint32, n int) []uint16 {
	rows := many(seed, n)
	for i := range rows {
		rows[i] &= 1<<n - 1
	}
	return rows
}

func TestTurnedTwice(t *testing.T) {
	for n := 1; n <= 16; n++ {
		for seed := range uint32(100) {
			rows := square(seed, n)
			wantTurned(t, Turn(rows, n), n, rows...)
		}
	}
}

// TestTurnedTwiceOtherThanSquare: turned back into as many rows as there were, what the columns told is there again.
func TestTurnedTwiceOtherThanSquare(t *testing.T) {
	for n := 1; n <= 16; n++ {
		for length := 1; length <= 16; length++ {
			rows := many(uint32(length), length)
			var want []uint16
			for _, row := range rows {
				want = append(want, row&(1<<n-1))
			}
			wantTurned(t, Turn(rows, n), length, want...)
		}
	}
}

// TestRowsAreLeftAsTheyAre looks at what lies behind their length too.
func TestRowsAreLeftAsTheyAre(t *testing.T) {
	for n := 1; n <= 16; n++ {
		for length := range 20 {
			whole := many(uint32(n), 40)
			was := slices.Clone(whole)
			Turn(whole[:length], n)
			if !slices.Equal(whole, was) {
				t.Fatalf("%d rows, %d columns: they, or what lies behind them, are changed", length, n)
			}
		}
	}
}

func TestWhatLiesBehindTheLengthIsNotRead(t *testing.T) {
	for length := range 16 {
		whole := make([]uint16, 40)
		for i := length; i < len(whole); i++ {
			whole[i] = 0xffff
		}
		wantTurned(t, whole[:length], 3, 0, 0, 0)
	}
}

// TestColumnsAreNew writes rows and columns behind the call, the latter up to their capacity.
func TestColumnsAreNew(t *testing.T) {
	for n := 1; n <= 16; n++ {
		rows := many(3, n)
		want := turned(rows, n)
		one, two := Turn(rows, n), Turn(rows, n)
		was := slices.Clone(rows)
		one = one[:cap(one)]
		for i := range one {
			one[i] = 0x1234
		}
		if !slices.Equal(rows, was) || !slices.Equal(two, want) {
			t.Fatalf("%d columns share memory", n)
		}
		clear(rows)
		if !slices.Equal(two, want) {
			t.Fatalf("%d columns are kept by their rows", n)
		}
		wantTurned(t, rows, n, make([]uint16, n)...)
		wantTurned(t, was, n, want...)
	}
}

// FuzzCalls asks all that may be asked, of any numbers.
func FuzzCalls(f *testing.F) {
	f.Add(uint16(22), 3, 5, []byte{1, 0, 3, 0})
	f.Add(uint16(0xffff), 16, 17, []byte{})
	f.Add(uint16(0x8000), 15, 16, make([]byte, 40))
	f.Add(uint16(1), -1, 0, []byte{255})
	f.Add(uint16(1), 1<<32, -1<<63, []byte{255, 255})
	f.Fuzz(func(t *testing.T, m uint16, from, n int, b []byte) {
		var rows []uint16
		for pair := range slices.Chunk(b, 2) {
			rows = append(rows, uint16(pair[0])|uint16(pair[len(pair)-1])<<8)
		}
		d := digits(m)
		if got, want := Has(m, from), 0 <= from && from < 16 && d[from] == '1'; got != want {
			t.Errorf("Has(%d, %d) = %v, want %v", m, from, got, want)
		}
		if got := Bits(m); len(got) != Count(m) || !slices.IsSorted(got) {
			t.Errorf("Bits(%d) = %v, Count is %d", m, got, Count(m))
		}
		want, columns := -1, []uint16(nil)
		if 1 <= n && n <= 16 {
			columns = turned(rows, n)
			if 0 <= from && from < n {
				want = picked(d, from, n)
			}
		}
		if got := Pick(m, from, n); got != want {
			t.Errorf("Pick(%d, %d, %d) = %d, want %d", m, from, n, got, want)
		}
		wantTurned(t, rows, n, columns...)
	})
}

package wire

import (
	"bytes"
	"testing"

	"shunter/api"
	"shunter/crc"
)

// known is frames with their bytes, whose checks were worked out apart from the program.
var known = []struct {
	name string
	f    api.Frame
	b    []byte
}{
	{"the chapter's example", api.Frame{Kind: 2, Lane: 1, Seq: 258}, []byte{2, 1, 1, 2, 0x4d, 0xeb}},
	{"the least credit", api.Frame{Kind: 2}, []byte{2, 0, 0, 0, 0x69, 0xa8}},
	{"the least resync", api.Frame{Kind: 3}, []byte{3, 0, 0, 0, 0x1f, 0x1c}},
	{"the greatest resync", api.Frame{Kind: 3, Lane: 2, Seq: 65535}, []byte{3, 2, 255, 255, 0x6c, 0x73}},
	{"the least data", api.Frame{Kind: 1, Dst: 1}, []byte{1, 0, 0, 0, 0, 1, 0, 0, 0, 0, 0x24, 0x2d}},
	{"a small number and body", api.Frame{Kind: 1, Seq: 1, Src: 2, Dst: 3, Body: 9}, []byte{1, 0, 0, 1, 2, 3, 0, 0, 0, 9, 0xc2, 0xa6}},
	{"every byte of number and body another one", api.Frame{Kind: 1, Lane: 1, Seq: 0x1234, Src: 5, Dst: 1, Body: 0x89abcdef}, []byte{1, 1, 0x12, 0x34, 5, 1, 0x89, 0xab, 0xcd, 0xef, 0xa9, 0xbd}},
	{"the greatest data", api.Frame{Kind: 1, Lane: 2, Seq: 65535, Src: 5, Body: 1<<32 - 1}, []byte{1, 2, 255, 255, 5, 0, 255, 255, 255, 255, 0xa3, 0xeb}},
}

// checked is these bytes and their check behind them, in memory of their own.
func checked(b ...byte) []byte {
	s := crc.Sum(b)
	return append(bytes.Clone(b), byte(s/256), byte(s%256))
}

func wantNone(t *testing.T, why string, b []byte) {
	t.Helper()
	if f, err := Decode(b); err != api.ErrFrame || f != (api.Frame{}) {
		t.Fatalf("%s: Decode(% x) = %+v, %d, want a frame of noughts, %d", why, b, f, err, api.ErrFrame)
	}
}

func wantRefused(t *testing.T, f api.Frame) {
	t.Helper()
	if Sound(f) {
		t.Fatalf("Sound(%+v) = true", f)
	}
	if b, err := Encode(f); err != api.ErrArg || len(b) != 0 {
		t.Fatalf("Encode(%+v) = % x, %d, want nothing, %d", f, b, err, api.ErrArg)
	}
}

func wantThereAndBack(t *testing.T, f api.Frame) []byte {
	t.Helper()
	if !Sound(f) {
		t.Fatalf("Sound(%+v) = false", f)
	}
	b, err := Encode(f)
	if err != api.OK {
		t.Fatalf("Encode(%+v): error %d", f, err)
	}
	if back, err := Decode(b); err != api.OK || back != f {
		t.Fatalf("Decode(% x) = %+v, %d, want %+v, 0", b, back, err, f)
	}
	return b
}

// eachKind calls do with sound frames of each kind and lane, with numbers, nodes and bodies of many values.
func eachKind(do func(f api.Frame)) {
	numbers := []uint16{0, 1, 2, 255, 256, 257, 258, 32767, 32768, 65279, 65280, 65534, 65535}
	bodies := []uint32{0, 1, 255, 256, 65535, 65536, 1<<24 - 1, 1 << 24, 1<<31 - 1, 1 << 31, 1<<32 - 1, 0x01020304}
	for lane := range uint8(3) {
		for _, n := range numbers {
			do(api.Frame{Kind: 2, Lane: lane, Seq: n})
			do(api.Frame{Kind: 3, Lane: lane, Seq: n})
			for src := range uint8(6) {
				for dst := range uint8(6) {
					if src == dst {
						continue
					}
					for _, body := range bodies {
						do(api.Frame{Kind: 1, Lane: lane, Seq: n, Src: src, Dst: dst, Body: body})
					}
				}
			}
		}
	}
}

func TestKnownBytes(t *testing.T) {
	for _, c := range known {
		if !Sound(c.f) {
			t.Errorf("%s: Sound(%+v) = false", c.name, c.f)
		}
		if b, err := Encode(c.f); err != api.OK || !bytes.Equal(b, c.b) {
			t.Errorf("%s: Encode(%+v) = % x, %d, want % x, 0", c.name, c.f, b, err, c.b)
		}
		if f, err := Decode(c.b); err != api.OK || f != c.f {
			t.Errorf("%s: Decode(% x) = %+v, %d, want %+v, 0", c.name, c.b, f, err, c.f)
		}
	}
}

func TestThereAndBack(t *testing.T) {
	seen := map[string]api.Frame{}
	eachKind(func(f api.Frame) {
		b := wantThereAndBack(t, f)
		if other, ok := seen[string(b)]; ok {
			t.Fatalf("% x is both %+v and %+v", b, other, f)
		}
		seen[string(b)] = f
	})
}

func TestEveryNumberThereAndBack(t *testing.T) {
	for n := range 65536 {
		wantThereAndBack(t, api.Frame{Kind: 1, Lane: 2, Seq: uint16(n), Src: 3, Dst: 4, Body: uint32(n) * 65537})
		wantThereAndBack(t, api.Frame{Kind: 2, Lane: 1, Seq: uint16(n)})
		wantThereAndBack(t, api.Frame{Kind: 3, Lane: 0, Seq: uint16(n)})
	}
}

// TestKindsAndLanes looks at all of them, as frames and as bytes: bytes whose check is right are none all the same, if their kind or lane may not be.
func TestKindsAndLanes(t *testing.T) {
	for kind := range 256 {
		for lane := range 256 {
			k, l := byte(kind), byte(lane)
			plain := api.Frame{Kind: k, Lane: l, Seq: 7}
			data := api.Frame{Kind: k, Lane: l, Seq: 7, Src: 4, Dst: 2, Body: 99}
			short, long := checked(k, l, 0, 7), checked(k, l, 0, 7, 4, 2, 0, 0, 0, 99)
			if kind == 1 && lane <= 2 {
				wantThereAndBack(t, data)
			} else {
				wantRefused(t, data)
				wantNone(t, "no data", long)
			}
			if (kind == 2 || kind == 3) && lane <= 2 {
				wantThereAndBack(t, plain)
			} else {
				wantRefused(t, plain)
				wantNone(t, "no credit, no resync", short)
			}
		}
	}
}

func TestNodesOfData(t *testing.T) {
	for src := range 256 {
		for dst := range 256 {
			f := api.Frame{Kind: 1, Lane: 1, Seq: 3, Src: byte(src), Dst: byte(dst), Body: 5}
			if src <= 5 && dst <= 5 && src != dst {
				wantThereAndBack(t, f)
				continue
			}
			wantRefused(t, f)
			wantNone(t, "nodes that may not be", checked(1, 1, 0, 3, byte(src), byte(dst), 0, 0, 0, 5))
		}
	}
}

func TestOthersHaveNoNodesAndNoBody(t *testing.T) {
	for _, kind := range []uint8{2, 3} {
		for lane := range uint8(3) {
			f := api.Frame{Kind: kind, Lane: lane, Seq: 300}
			wantThereAndBack(t, f)
			for n := range 255 {
				with := f
				with.Src = byte(n + 1)
				wantRefused(t, with)
				with = f
				with.Dst = byte(n + 1)
				wantRefused(t, with)
				with.Src = with.Dst
				wantRefused(t, with)
			}
			for bit := range 32 {
				with := f
				with.Body = 1 << bit
				wantRefused(t, with)
			}
			with := f
			with.Src, with.Dst, with.Body = 1, 2, 3
			wantRefused(t, with)
		}
	}
}

func TestFrameOfNoughts(t *testing.T) {
	wantRefused(t, api.Frame{})
	wantNone(t, "noughts", make([]byte, 6))
	wantNone(t, "noughts", make([]byte, 12))
	wantNone(t, "noughts with their check", checked(0, 0, 0, 0))
}

func TestOneOtherByteIsNoFrame(t *testing.T) {
	for _, c := range known {
		b := bytes.Clone(c.b)
		for at, was := range b {
			for by := 1; by < 256; by++ {
				b[at] = was ^ byte(by)
				wantNone(t, c.name+", one byte is another one", b)
			}
			b[at] = was
		}
	}
}

// TestInOneWay bends each two bytes of a frame: what is a frame then all the same must have these very bytes.
func TestInOneWay(t *testing.T) {
	for _, c := range known {
		b := bytes.Clone(c.b)
		for i := range b {
			for j := range i {
				for _, x := range []byte{1, 2, 3, 16, 128, 129, 255} {
					for _, y := range []byte{1, 2, 3, 16, 128, 129, 255} {
						b[i], b[j] = c.b[i]^x, c.b[j]^y
						f, err := Decode(b)
						wantItsOwnBytes(t, b, f, err)
					}
				}
				b[j] = c.b[j]
			}
			b[i] = c.b[i]
		}
	}
}

// wantItsOwnBytes holds an answer of Decode against both that it may be.
func wantItsOwnBytes(t *testing.T, b []byte, f api.Frame, err api.Errno) {
	t.Helper()
	if err == api.OK {
		if again, err := Encode(f); err != api.OK || !bytes.Equal(again, b) {
			t.Fatalf("Decode(% x) = %+v, of which Encode is % x, %d", b, f, again, err)
		}
		return
	}
	if err != api.ErrFrame || f != (api.Frame{}) {
		t.Fatalf("Decode(% x) = %+v, %d, want a frame of noughts, %d", b, f, err, api.ErrFrame)
	}
}

func TestOneByteMoreOrLess(t *testing.T) {
	for _, c := range known {
		for n := range len(c.b) {
			wantNone(t, c.name+", not all of it", bytes.Clone(c.b[:n]))
			wantNone(t, c.name+", not its beginning", bytes.Clone(c.b[n+1:]))
		}
		for more := range 256 {
			wantNone(t, c.name+", one more at its end", append(bytes.Clone(c.b), byte(more)))
			wantNone(t, c.name+", one more at its beginning", append([]byte{byte(more)}, c.b...))
		}
		wantNone(t, c.name+", twice", bytes.Repeat(c.b, 2))
		wantNone(t, c.name+", its check twice", checked(c.b...))
	}
}

// TestAsManyBytesAsTheKindHas has the check right each time, so that how many there are is all that is wrong.
func TestAsManyBytesAsTheKindHas(t *testing.T) {
	for kind := range byte(5) {
		for n := range 40 {
			fields := append([]byte{kind, 1, 0, 7, 4, 2}, make([]byte, 40)...)[:n]
			if kind == 1 && n == 10 || (kind == 2 || kind == 3) && n == 4 {
				if _, err := Decode(checked(fields...)); err != api.OK {
					t.Fatalf("Decode(% x): error %d", checked(fields...), err)
				}
				continue
			}
			wantNone(t, "too many or too few", checked(fields...))
		}
	}
}

func TestCheckTheWrongWayRound(t *testing.T) {
	for _, c := range known {
		b, n := bytes.Clone(c.b), len(c.b)
		b[n-2], b[n-1] = b[n-1], b[n-2]
		wantNone(t, c.name+", its check turned round", b)
	}
}

func TestEveryCheckButOne(t *testing.T) {
	for _, c := range known {
		b, n := bytes.Clone(c.b), len(c.b)
		good := 0
		for check := range 65536 {
			b[n-2], b[n-1] = byte(check/256), byte(check%256)
			f, err := Decode(b)
			wantItsOwnBytes(t, b, f, err)
			if err == api.OK {
				good++
			}
		}
		if good != 1 {
			t.Errorf("%s: %d checks are taken, want 1", c.name, good)
		}
	}
}

func TestNoBytes(t *testing.T) {
	wantNone(t, "nil", nil)
	wantNone(t, "an empty list", []byte{})
	wantNone(t, "an empty list with a frame behind its length", bytes.Clone(known[0].b)[:0])
}

func TestOneByteAlone(t *testing.T) {
	for n := range 256 {
		wantNone(t, "one byte", []byte{byte(n)})
		wantNone(t, "one byte twice", []byte{byte(n), byte(n)})
	}
	wantNone(t, "the check of nothing", checked())
}

func TestManyBytes(t *testing.T) {
	for kind := range byte(5) {
		b := make([]byte, 1<<20)
		b[0] = kind
		wantNone(t, "a million bytes", b)
	}
}

// TestBytesAreLeftAsTheyAre hands in bytes with room behind them, their check right and wrong: a check that is worked out must not be laid there.
func TestBytesAreLeftAsTheyAre(t *testing.T) {
	for _, c := range known {
		for at := range c.b {
			for _, x := range []byte{0, 1, 255} {
				whole := append(bytes.Clone(c.b), 0xa1, 0xa2, 0xa3, 0xa4, 0xa5, 0xa6, 0xa7, 0xa8)
				whole[at] ^= x
				was := bytes.Clone(whole)
				for n := range len(whole) + 1 {
					Decode(whole[:n])
					if !bytes.Equal(whole, was) {
						t.Fatalf("%s: behind Decode of the first %d: % x, were % x", c.name, n, whole, was)
					}
				}
			}
		}
	}
}

func TestWhatLiesBehindTheLengthIsNotRead(t *testing.T) {
	for _, c := range known {
		whole := append(bytes.Clone(c.b), make([]byte, 16)...)
		n := len(c.b)
		for by := range 256 {
			for i := n; i < len(whole); i++ {
				whole[i] = byte(by)
			}
			if f, err := Decode(whole[:n]); err != api.OK || f != c.f {
				t.Fatalf("%s, %d behind it: Decode = %+v, %d", c.name, by, f, err)
			}
		}
		wantNone(t, c.name+", its last byte behind the length", whole[:n-1])
		wantNone(t, c.name+", its check behind the length", whole[:n-2])
	}
}

// TestAnswersAreNewMemory writes all that one answer has, its room behind it too, and looks for it in others.
func TestAnswersAreNewMemory(t *testing.T) {
	for _, c := range known {
		one, _ := Encode(c.f)
		two, _ := Encode(c.f)
		one = one[:cap(one)]
		for i := range one {
			one[i] ^= 0x55
		}
		three, _ := Encode(c.f)
		if !bytes.Equal(two, c.b) || !bytes.Equal(three, c.b) {
			t.Errorf("%s: another answer was written: % x and % x, want % x", c.name, two, three, c.b)
		}
	}
}

func TestNothingLiesBehindAnAnswer(t *testing.T) {
	for _, c := range known {
		if b, _ := Encode(c.f); cap(b) != len(b) {
			t.Errorf("%s: %d bytes with room for %d", c.name, len(b), cap(b))
		}
	}
}

// TestTheFrameKeepsNoBytes changes bytes behind Decode of them.
func TestTheFrameKeepsNoBytes(t *testing.T) {
	for _, c := range known {
		b := bytes.Clone(c.b)
		f, _ := Decode(b)
		clear(b)
		if f != c.f {
			t.Errorf("%s: the frame is %+v when its bytes are noughts, was %+v", c.name, f, c.f)
		}
		wantNone(t, "the same memory, noughts now", b)
	}
}

// FuzzDecode holds for any bytes: no panic, and either no frame or one of which they are Encode. With their check behind them they get further in.
func FuzzDecode(f *testing.F) {
	for _, c := range known {
		f.Add(c.b)
		f.Add(c.b[:len(c.b)-2])
	}
	f.Add([]byte{})
	f.Add([]byte{2, 3, 0, 0})
	f.Add([]byte{1, 0, 0, 0, 3, 3, 0, 0, 0, 0})
	f.Fuzz(func(t *testing.T, b []byte) {
		for _, x := range [][]byte{b, checked(b...)} {
			frame, err := Decode(x)
			wantItsOwnBytes(t, x, frame, err)
		}
	})
}

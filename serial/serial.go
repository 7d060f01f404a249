// Package serial is layer 1: see shared/doc/01-serial.md.
package serial

// half is half of the short numbers: from there on a number counts as behind, not ahead.
const half = 32768

type integer interface {
	~int | ~int8 | ~int16 | ~int32 | ~int64 | ~uint | ~uint8 | ~uint16 | ~uint32 | ~uint64
}

// short is a number modulo 65536. It holds for negative ones too, so that differences need no care for their sign.
func short[N integer](n N) uint16 { return uint16(n) }

// Less says whether b is ahead of a, by 1 to 32767. Numbers that are 32768 apart are ahead of each other in neither order.
func Less(a, b uint16) bool {
	ahead := short(int(b) - int(a))
	return 0 < ahead && ahead < half
}

// Widen is the number nearest to near that is s when it is short; of two that are equally near it is the lesser one, for the numbers looked at begin at near - 32768 and end below near + 32768. All of it is modulo 2^64.
func Widen(near uint64, s uint16) uint64 {
	least := near - half
	return least + uint64(short(uint64(s)-least))
}

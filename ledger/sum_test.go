package ledger_test

// P19.1: the check sum.

import (
	"bytes"
	"testing"

	"reach/ledger"
)

// bitByBit: the check sum in the words of P19.1.
func bitByBit(data []byte) int {
	register := uint32(0xFFFFFFFF)
	for _, b := range data {
		register ^= uint32(b)
		for range 8 {
			out := register & 1
			register >>= 1
			if out == 1 {
				register ^= 0x82F63B78
			}
		}
	}
	return int(register ^ 0xFFFFFFFF)
}

func checkSum(t *testing.T, data []byte) {
	t.Helper()
	if got, want := ledger.Sum(data), bitByBit(data); got != want || got != int(told(data)) || got < 0 || got > 4294967295 {
		t.Fatalf("P19.1: Sum of %d bytes %.60x = %d, want %d", len(data), data, got, want)
	}
}

func TestSumOfEveryByte(t *testing.T) {
	for a := range 256 {
		checkSum(t, []byte{byte(a)})
		for b := range 256 {
			checkSum(t, []byte{byte(a), byte(b)})
		}
	}
}

func TestSumOfManyBytes(t *testing.T) {
	s := source(1)
	for n := range 600 {
		checkSum(t, s.bytes(n))
		checkSum(t, make([]byte, n))
		checkSum(t, bytes.Repeat([]byte{0xFF}, n))
	}
	for _, n := range []int{16384, 16404, 131072, 131073, 3000001} {
		checkSum(t, s.bytes(n))
	}
}

// What stands behind the list's end is not looked at.
func TestSumEndsWithTheList(t *testing.T) {
	data := []byte("123456789abc")
	if got := ledger.Sum(data[:9]); got != 3808858755 {
		t.Errorf("P19.1: %d", got)
	}
	if got := ledger.Sum(data[:0]); got != 0 {
		t.Errorf("P19.1: %d", got)
	}
}

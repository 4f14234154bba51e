package numbered_test

import (
	"math"
	"slices"
	"testing"

	"convoy/numbered"
)

func TestName(t *testing.T) {
	for n, name := range map[int]string{
		1: "wal-000001", 10: "wal-000010", 999: "wal-000999", 123456: "wal-123456", 999999: "wal-999999",
		0: "", -1: "", -999999: "", 1000000: "", 1000001: "", math.MinInt: "", math.MaxInt: "",
	} {
		if got := numbered.Name("wal-", n); got != name {
			t.Errorf("P3.1: Name(%d): %q, want %q", n, got, name)
		}
	}
}

func TestNumberIsThatOfExactNamesAlone(t *testing.T) {
	for _, n := range []int{1, 7, 10, 99999, 100000, 999998, 999999} {
		if got := numbered.Number("sst-", numbered.Name("sst-", n)); got != n {
			t.Errorf("P3.1: Number of the name of %d: %d", n, got)
		}
	}
	for _, name := range []string{
		"", "sst-", "sst", "000001", "1", "sst-000000", "sst-00001", "sst-0000001", "sst-1000000", "sst-1000001", "sst-00000a", "sst-+00001", "sst--00001",
		"sst-0000.1", "sst-00_001", "sst- 00001", "sst-000001 ", "sst-000001\n", "sst-000001-", "sst-sst-000001", "-sst-000001", "SST-000001", "wal-000001",
		"sst-99999999999999999999", "sst-18446744073709551617", "sst-0x0001",
	} {
		if got := numbered.Number("sst-", name); got != 0 {
			t.Errorf("P3.3: Number(%q): %d", name, got)
		}
	}
}

func TestAll(t *testing.T) {
	names := []string{"a", "manifest-000001", "sst-000000", "sst-000003", "sst-0000031", "sst-000009", "sst-000010", "sst-999999", "wal-000004"}
	for prefix, want := range map[string][]int{"sst-": {3, 9, 10, 999999}, "wal-": {4}, "manifest-": {1}, "x-": nil} {
		if got := numbered.All(prefix, names); !slices.Equal(got, want) {
			t.Errorf("P3.1: All(%q): %v, want %v", prefix, got, want)
		}
	}
}

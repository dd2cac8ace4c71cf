package limbs_test

import (
	"math/big"
	"slices"
	"strings"
	"testing"

	"theodolite/limbs"
)

func TestAllDigits(t *testing.T) {
	for s, want := range map[string]bool{
		"": false, "0": true, "9": true, "0123456789": true, "/": false, ":": false, "1a": false, "a1": false, "-1": false, "1 ": false, "１": false, "\x00": false,
	} {
		if limbs.AllDigits(s) != want {
			t.Errorf("AllDigits(%q) is not %v", s, want)
		}
	}
}

func TestText(t *testing.T) {
	for _, a := range rows() {
		was := slices.Clone(a)
		text := limbs.Text(a)
		if text != toBig(a).String() || !slices.Equal(a, was) {
			t.Fatalf("Text(%v): %s", was, text)
		}
		for _, noughts := range []int{0, 1, 18, 19, 20, 400} {
			if back := limbs.Parse(strings.Repeat("0", noughts) + text); !slices.Equal(back, a) {
				t.Fatalf("Parse of %d noughts and %s: %v", noughts, text, back)
			}
		}
	}
}

func TestTextAtPowersOfTen(t *testing.T) {
	ten := big.NewInt(1)
	for range 130 {
		for _, more := range []int64{-1, 0, 1} {
			want := new(big.Int).Add(ten, big.NewInt(more)).String()
			a := limbs.Parse(want)
			if !same(a, new(big.Int).Add(ten, big.NewInt(more))) || limbs.Text(a) != want {
				t.Fatalf("Parse(%s): %v", want, a)
			}
		}
		ten.Mul(ten, big.NewInt(10))
	}
	if limbs.Parse("") != nil {
		t.Error("Parse of no digits is not 0")
	}
}

func TestGroupText(t *testing.T) {
	for group, want := range map[uint64]string{
		0: "0000000000000000000", 1: "0000000000000000001", 70: "0000000000000000070", limbs.Group / 10: "1000000000000000000", limbs.Group - 1: "9999999999999999999",
	} {
		if got := limbs.GroupText(group); got != want || len(got) != limbs.GroupDigits {
			t.Errorf("GroupText(%d): %s", group, got)
		}
	}
}

package trace_test

import (
	"math"
	"testing"

	"halfplane/api"
	"halfplane/signature"
	"halfplane/trace"
)

func TestFixed(t *testing.T) { // P32.5
	for n := 5; n <= api.MaxLevel; n++ {
		want := classNumber(-4 * n)
		if n%4 == 3 {
			want += classNumber(-n)
		}
		count, e := trace.Fixed(n)
		if e != api.OK || count != want {
			t.Error(n, count, want, e)
		}
		genus, _ := signature.Genus0(n)
		if rest := 2 + 2*genus - count; rest < 0 || rest%4 != 0 {
			t.Error(n, count, genus)
		}
	}
	for n, want := range map[int]int{5: 2, 6: 2, 7: 2, 11: 4, 23: 6, 37: 2, 71: 14, 119: 20, 120: 8} {
		if count, e := trace.Fixed(n); e != api.OK || count != want {
			t.Error(n, count, e)
		}
	}
	for _, n := range []int{4, 3, 1, 0, -1, -7, 121, 123, math.MaxInt, math.MinInt} {
		if count, e := trace.Fixed(n); e != api.ErrRange || count != 0 {
			t.Error(n, count, e)
		}
	}
}

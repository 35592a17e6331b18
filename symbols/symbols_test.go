package symbols_test

import (
	"math"
	"math/big"
	"math/rand"
	"slices"
	"testing"

	"halfplane/api"
	"halfplane/dimension"
	"halfplane/manin"
	"halfplane/symbols"
)

func TestNewErrors(t *testing.T) { // P41.1
	for _, s := range wrong() {
		want := dimension.Check(s)
		if want == api.OK {
			t.Fatalf("%v is valid", s)
		}
		if m, e := symbols.New(s); m != nil || e != want {
			t.Errorf("New(%v): %v, %d", s, m, e)
		}
	}
}

func TestNil(t *testing.T) { // P41.1, R5
	var m *symbols.Module
	if m.Spec() != (api.Spec{}) || m.Dim() != 0 || len(m.Free()) != 0 {
		t.Error(m.Spec(), m.Dim(), m.Free())
	}
	if a := m.Matrix(); a.Rows != 0 || a.Cols != 0 || len(a.A) != 0 {
		t.Error(a)
	}
	for _, n := range []int{-1, 0} {
		v, e := m.Reduce(n)
		expectError(t, "Reduce", v, e, api.ErrNil)
		v, e = m.Vector(make([]api.Rat, n+1))
		expectError(t, "Vector", v, e, api.ErrNil)
	}
}

func TestEchelon(t *testing.T) { // P41.1, P41.2: the quotient is read off from the echelon form
	for _, s := range spaces() {
		rows := relations(t, s)
		pivots := reduce(rows)
		var free []int
		for n := range rows[0] {
			if !slices.Contains(pivots, n) {
				free = append(free, n)
			}
		}
		m := module(t, s)
		if m.Spec() != s || m.Dim() != len(free) || !slices.Equal(m.Free(), free) {
			t.Fatalf("%v: %v, %d, %v; want %v", s, m.Spec(), m.Dim(), m.Free(), free)
		}
		all := m.Matrix()
		if all.Rows != len(rows[0]) || all.Cols != len(free) || len(all.A) != all.Rows*all.Cols {
			t.Fatalf("%v: Matrix has %d rows and %d columns", s, all.Rows, all.Cols)
		}
		for n := range rows[0] {
			want := zeros(len(free))
			for j, f := range free {
				if i := slices.Index(pivots, n); i >= 0 {
					want[j].Neg(rows[i][f])
				} else if n == f {
					want[j].SetInt64(1)
				}
			}
			if got, e := m.Reduce(n); e != api.OK || !sameRats(got, want) {
				t.Fatalf("%v: Reduce(%d) is %v, %d; want %v", s, n, toRats(got), e, want)
			}
			if !sameRats(all.A[n*len(free):(n+1)*len(free)], want) {
				t.Fatalf("%v: row %d of Matrix", s, n)
			}
		}
	}
}

func TestRelations(t *testing.T) { // P41.2, P41.3
	for _, s := range append(spaces(), great()...) {
		m := module(t, s)
		free := m.Free()
		if !slices.IsSorted(free) || len(free) != m.Dim() {
			t.Fatalf("%v: the free symbols are %v", s, free)
		}
		rows := relations(t, s)
		// The classes of the relations are 0, and those of the free symbols are independent;
		// so the rank is at most as said, and the rank modulo a prime shows that it is not less.
		if rank := rankModulo(rows, math.MaxInt32); m.Dim() != len(rows[0])-rank {
			t.Errorf("%v: dimension %d, rank %d of %d", s, m.Dim(), rank, len(rows[0]))
		}
		for i, row := range rows {
			var v []api.Rat
			for _, x := range row {
				v = append(v, api.Rat{Num: fromInt(x.Num(), 0), Den: fromInt(x.Denom(), 0)})
			}
			if got, e := m.Vector(v); e != api.OK || !sameRats(got, zeros(m.Dim())) {
				t.Fatalf("%v: relation %d has the class %v, %d", s, i, toRats(got), e)
			}
		}
		for n := range rows[0] {
			got, e := m.Reduce(n)
			if e != api.OK || len(got) != m.Dim() {
				t.Fatalf("%v: Reduce(%d) is %v, %d", s, n, toRats(got), e)
			}
			if j, ok := slices.BinarySearch(free, n); ok {
				want := zeros(m.Dim())
				want[j].SetInt64(1)
				if !sameRats(got, want) {
					t.Fatalf("%v: Reduce(%d) is %v", s, n, toRats(got))
				}
				continue
			}
			for j, x := range toRats(got) {
				// A row of the echelon form has its pivot before all of its other terms.
				if free[j] < n && x.Sign() != 0 {
					t.Fatalf("%v: Reduce(%d) is %v", s, n, toRats(got))
				}
			}
		}
	}
}

func TestDimensions(t *testing.T) { // P41.2: two symbols for a cusp form, one for an Eisenstein series
	for level := 1; level <= api.MaxLevel; level++ {
		for weight := 2; weight <= api.MaxWeight; weight++ {
			for disc := -level; disc <= level; disc++ {
				s := spec(level, weight, disc)
				count, e := manin.Count(s)
				if e != api.OK || count > 130 {
					continue
				}
				cusp, _ := dimension.Cusp(s)
				eisenstein, _ := dimension.Eisenstein(s)
				if m := module(t, s); m.Dim() != 2*cusp+eisenstein {
					t.Errorf("%v: %d, not twice %d and %d", s, m.Dim(), cusp, eisenstein)
				}
			}
		}
	}
}

func TestVector(t *testing.T) { // P41.1, P41.3
	r := rand.New(rand.NewSource(413))
	for _, s := range append(spaces(), great()[:3]...) {
		m := module(t, s)
		a := m.Matrix()
		for range 6 {
			v := make([]api.Rat, a.Rows)
			want := zeros(a.Cols)
			for n := range v {
				x := randomRat(r)
				v[n] = disguise(r, x)
				for j := range want {
					want[j].Add(want[j], new(big.Rat).Mul(x, toRat(a.A[n*a.Cols+j])))
				}
			}
			if got, e := m.Vector(v); e != api.OK || !sameRats(got, want) {
				t.Fatalf("%v: Vector is %v, %d; want %v", s, toRats(got), e, want)
			}
		}
		if got, e := m.Vector(make([]api.Rat, a.Rows)); e != api.OK || !sameRats(got, zeros(a.Cols)) {
			t.Errorf("%v: the class of 0 is %v, %d", s, toRats(got), e)
		}
	}
}

func TestArguments(t *testing.T) { // P41.1
	for _, s := range spaces() {
		m := module(t, s)
		count, _ := manin.Count(s)
		for _, n := range []int{math.MinInt, -1, count, count + 1, math.MaxInt} {
			v, e := m.Reduce(n)
			expectError(t, "Reduce", v, e, api.ErrRange)
		}
		for _, n := range []int{0, count - 1, count + 1, 2 * count} {
			v, e := m.Vector(make([]api.Rat, n))
			expectError(t, "Vector", v, e, api.ErrShape)
		}
	}
}

func TestExamples(t *testing.T) { // P41.1
	for _, x := range []struct {
		s    api.Spec
		free []int
		want [][]*big.Rat
	}{
		{spec(1, 4, 1), []int{2}, [][]*big.Rat{rats(-1), rats(0), rats(1)}},
		{spec(2, 2, 1), []int{1}, [][]*big.Rat{rats(-1), rats(1), rats(0)}},
		{spec(1, 2, 1), nil, [][]*big.Rat{nil}},
	} {
		m := module(t, x.s)
		if !slices.Equal(m.Free(), x.free) || m.Dim() != len(x.free) {
			t.Errorf("%v: %v", x.s, m.Free())
		}
		for n, want := range x.want {
			if got, e := m.Reduce(n); e != api.OK || !sameRats(got, want) {
				t.Errorf("%v: Reduce(%d) is %v, %d", x.s, n, toRats(got), e)
			}
		}
	}
	var v []api.Rat
	for _, n := range []int64{5, 7, 2} {
		v = append(v, api.Rat{Num: fromInt(big.NewInt(n), 0), Den: fromInt(big.NewInt(1), 0)})
	}
	if got, e := module(t, spec(1, 4, 1)).Vector(v); e != api.OK || !sameRats(got, rats(-3)) {
		t.Errorf("Vector of (5, 7, 2): %v, %d", toRats(got), e)
	}
	if m := module(t, spec(11, 2, 1)); m.Dim() != 3 {
		t.Errorf("level 11: %d", m.Dim())
	}
}

// spoil overwrites the memory of fractions.
func spoil(l []api.Rat) {
	for i := range l {
		for _, mag := range [][]uint32{l[i].Num.Mag, l[i].Den.Mag} {
			mag = mag[:cap(mag)]
			for k := range mag {
				mag[k] = 77
			}
		}
		l[i] = api.Rat{}
	}
}

func TestMemory(t *testing.T) { // R3, R4: results are new memory, and arguments stay as they are
	r := rand.New(rand.NewSource(3))
	for _, s := range []api.Spec{spec(11, 2, 1), spec(5, 6, 5), spec(1, 24, 1)} {
		m := module(t, s)
		count, _ := manin.Count(s)
		v := make([]api.Rat, count)
		for n := range v {
			v[n] = disguise(r, randomRat(r))
		}
		unitVector := make([]api.Rat, count)
		unitVector[m.Free()[0]] = disguise(r, big.NewRat(1, 1))
		saved := toRats(v)
		for name, f := range map[string]func() []api.Rat{
			"Reduce of a free symbol": func() []api.Rat { l, _ := m.Reduce(m.Free()[0]); return l },
			"Reduce":                  func() []api.Rat { l, _ := m.Reduce(0); return l },
			"Vector":                  func() []api.Rat { l, _ := m.Vector(v); return l },
			"Vector of a unit vector": func() []api.Rat { l, _ := m.Vector(unitVector); return l },
			"Matrix":                  func() []api.Rat { return m.Matrix().A },
		} {
			got, want := f(), toRats(f())
			for i := range got {
				spoil(got[i : i+1])
				if i+1 < len(got) && !sameRats(got[i+1:i+2], want[i+1:i+2]) {
					t.Fatalf("%v, %s: fractions %d and %d share memory", s, name, i, i+1)
				}
			}
			if !sameRats(f(), want) {
				t.Errorf("%v, %s: the result is kept", s, name)
			}
		}
		for n, x := range toRats(v) {
			if x.Cmp(saved[n]) != 0 {
				t.Fatalf("%v: the argument of Vector was changed", s)
			}
		}
		free := m.Free()
		kept := slices.Clone(free)
		clear(free[:cap(free)])
		if !slices.Equal(m.Free(), kept) {
			t.Errorf("%v: Free is kept", s)
		}
	}
}

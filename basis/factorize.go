package basis

import (
	"cmp"
	"slices"

	"pairing/api"
	"pairing/rational"
	"pairing/sparse"
)

// elimination is the state of Gauss's elimination. The rows that are not used
// are those of the matrix that remains; a used row is a row of the upper factor.
type elimination struct {
	rows []api.Vector
	used []bool
}

// factorize returns new factors of the matrix with these columns, which are
// valid and canonical, and whether it is regular.
func factorize(columns []api.Vector) (factors api.Factors, regular bool) {
	n := len(columns)
	rows, _ := sparse.Transpose(columns, n)
	s := elimination{rows, make([]bool, n)}
	var f api.Factors
	for range n {
		row, column, found := s.choose()
		if !found {
			return api.Factors{}, false
		}
		f.Rows = append(f.Rows, row)
		f.Cols = append(f.Cols, column)
		f.Lower = append(f.Lower, s.eliminate(row, column))
	}
	f.Upper = make([]api.Vector, n)
	for k, row := range f.Rows {
		f.Lower[k] = renumber(f.Lower[k], f.Rows)
		for _, entry := range renumber(rows[row], f.Cols) {
			f.Upper[entry.Index] = append(f.Upper[entry.Index], api.Entry{Index: k, Value: entry.Value})
		}
	}
	return f, true
}

// choose returns the pivot of Markowitz: the element with the smallest bound on
// the number of new elements. Of several ones it is the first. There is none if
// the matrix that remains is 0.
func (s *elimination) choose() (row, column int, found bool) {
	counts := s.countColumns()
	least := len(s.rows) * len(s.rows)
	for i, v := range s.rows {
		if s.used[i] {
			continue
		}
		for _, entry := range v {
			bound := (len(v) - 1) * (counts[entry.Index] - 1)
			if bound < least {
				least = bound
				row, column, found = i, entry.Index, true
			}
		}
	}
	return row, column, found
}

// countColumns returns the number of elements of each column of the matrix that
// remains.
func (s *elimination) countColumns() []int {
	counts := make([]int, len(s.rows))
	for i, v := range s.rows {
		if s.used[i] {
			continue
		}
		for _, entry := range v {
			counts[entry.Index]++
		}
	}
	return counts
}

// eliminate uses a row to make the other elements of a column 0. It returns the
// column of the lower factor, with the original numbers of the rows.
func (s *elimination) eliminate(row, column int) api.Vector {
	s.used[row] = true
	pivot := sparse.At(s.rows[row], column)
	lower := api.Vector{{Index: row, Value: one()}}
	for i, v := range s.rows {
		value := sparse.At(v, column)
		if s.used[i] || rational.Sign(value) == 0 {
			continue
		}
		multiple, _ := rational.Div(value, pivot)
		s.rows[i], _ = sparse.AddScaled(v, s.rows[row], rational.Negate(multiple), len(s.rows))
		lower = append(lower, api.Entry{Index: i, Value: multiple})
	}
	return lower
}

// renumber returns v with the places of its indexes in order instead of the
// indexes. It keeps the values.
func renumber(v api.Vector, order []int) api.Vector {
	var l api.Vector
	for _, entry := range v {
		l = append(l, api.Entry{Index: slices.Index(order, entry.Index), Value: entry.Value})
	}
	slices.SortFunc(l, func(a, b api.Entry) int { return cmp.Compare(a.Index, b.Index) })
	return l
}

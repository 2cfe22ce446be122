package sparse

import "pairing/api"

func Multiply(columns []api.Vector, x api.Vector, rows int) (api.Vector, api.Errno) {
	if e := validateColumns(columns, rows); e != api.OK {
		return nil, e
	}
	if e := Validate(x, len(columns)); e != api.OK {
		return nil, e
	}
	products := make([][]product, rows)
	for k := range x {
		column := columns[x[k].Index]
		for i := range column {
			row := column[i].Index
			products[row] = append(products[row], product{&x[k].Value, &column[i].Value})
		}
	}
	var v api.Vector
	for row, l := range products {
		v = appendEntry(v, row, sumProducts(l))
	}
	return v, api.OK
}

func Transpose(columns []api.Vector, rows int) ([]api.Vector, api.Errno) {
	if !isDimension(len(columns)) {
		return nil, api.ErrRange
	}
	if e := validateColumns(columns, rows); e != api.OK {
		return nil, e
	}
	transposed := make([]api.Vector, rows)
	for i, column := range columns {
		for _, entry := range column {
			row := entry.Index
			transposed[row] = append(transposed[row], api.Entry{Index: i, Value: canonical(entry.Value)})
		}
	}
	return transposed, api.OK
}

// validateColumns validates rows even if there are no columns.
func validateColumns(columns []api.Vector, rows int) api.Errno {
	if !isDimension(rows) {
		return api.ErrRange
	}
	for _, column := range columns {
		if e := Validate(column, rows); e != api.OK {
			return e
		}
	}
	return api.OK
}

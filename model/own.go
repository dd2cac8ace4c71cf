package model

import "theodolite/api"

// ownValue is a value with lists of its own.
func ownValue(v api.Value) api.Value {
	v.Num.Num = append([]uint64(nil), v.Num.Num...)
	v.Num.Den = append([]uint64(nil), v.Num.Den...)
	return v
}

// ownTable is a table with lists of its own.
func ownTable(tb api.Table) api.Table {
	rows := make([]api.Row, 0, len(tb.Rows))
	for _, row := range tb.Rows {
		args := make([]api.Value, 0, len(row.Args))
		for _, a := range row.Args {
			args = append(args, ownValue(a))
		}
		rows = append(rows, api.Row{Args: args, Value: ownValue(row.Value)})
	}
	return api.Table{Name: tb.Name, Rows: rows, Else: ownValue(tb.Else)}
}

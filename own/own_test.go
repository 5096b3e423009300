package own_test

import (
	"testing"

	"caddis/api"
	"caddis/expr"
	"caddis/own"
)

// made is an expression, made anew by each call; one that may not be, so that each part of it has something.
func made() api.Expr {
	a := api.Expr{Op: "col", S: "a", V: api.Value{Kind: api.Int, I: 5, S: "x"}, L: []api.Expr{{Op: "lit", V: api.Value{Kind: api.Bool, I: 1}}}}
	return api.Expr{Op: "and", S: "b", L: []api.Expr{a, {}, {Op: "not", L: []api.Expr{{Op: "null", L: []api.Expr{a}}}}, {L: []api.Expr{}}}}
}

func TestExpr(t *testing.T) {
	for _, e := range []api.Expr{{}, {L: []api.Expr{}}, {Op: "col", S: "a"}, made()} {
		if got := own.Expr(e); !expr.Same(got, e) {
			t.Errorf("%v: %v", e, got)
		}
	}
	deep := api.Expr{Op: "col", S: "a"}
	for range 1<<16 - 1 {
		deep = api.Expr{Op: "not", L: []api.Expr{deep}}
	}
	if !expr.Same(own.Expr(deep), deep) {
		t.Error("an expression as deep as can be")
	}
}

// What is changed in the copy is not changed in what was copied, nor in another place of the copy.
func TestExprOwn(t *testing.T) {
	e := made()
	got := own.Expr(e)
	got.L[0].S, got.L[0].L[0].Op = "z", "z"
	if !expr.Same(got.L[2], made().L[2]) {
		t.Error("two parts of the copy have a part in common")
	}
	got.L[1].Op, got.L[2].L[0].L[0].L[0].V.I = "z", 9
	if !expr.Same(e, made()) {
		t.Error("the copy has a part of what was copied")
	}
	_ = append(got.L[:1], api.Expr{Op: "z"})
	if !expr.Same(e, made()) {
		t.Error("the copy's list is laid over that of what was copied")
	}
}

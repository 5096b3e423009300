package stmt

import "caddis/api"

// statement is a statement.
func (p *parser) statement() api.Stmt {
	return p.one(map[string]func() api.Stmt{
		"CREATE":  p.createTable,
		"DROP":    p.dropTable,
		"INSERT":  p.insertInto,
		"UPDATE":  p.update,
		"DELETE":  p.deleteFrom,
		"SELECT":  p.selectFrom,
		"GRANT":   p.grant,
		"REVOKE":  p.revoke,
		"MIGRATE": p.migrate,
	})
}

// createTable is what stands behind CREATE.
func (p *parser) createTable() api.Stmt {
	p.must("TABLE")
	s := api.Stmt{Op: createOp, Table: p.name()}
	p.bracketed(func() { p.define(&s) })
	return s
}

// define parses what stands in the ( and ) of a CREATE TABLE.
func (p *parser) define(s *api.Stmt) {
	// KEY is no name: so it ends the columns, though they have the same , between.
	for !p.failed && !p.take("KEY") {
		s.Cols = append(s.Cols, p.column())
		p.must(",")
	}
	s.Key = p.inBrackets()
	for p.take(",", "UNIQUE") {
		s.Uniques = append(s.Uniques, p.inBrackets())
	}
	for p.take(",", "REFERENCES") {
		s.Refs = append(s.Refs, api.Ref{Col: p.inBrackets(), Table: p.name()})
	}
	s.Check = p.check(",", "CHECK")
}

// column is a column of a CREATE TABLE.
func (p *parser) column() api.Column {
	return api.Column{Name: p.name(), Type: p.typeWord(), NotNull: p.take("NOT", "NULL")}
}

// typeWord is the type of a word.
func (p *parser) typeWord() int {
	for t, w := range types {
		if p.take(w) {
			return t
		}
	}
	p.failed = true
	return 0
}

// dropTable is what stands behind DROP.
func (p *parser) dropTable() api.Stmt {
	p.must("TABLE")
	return api.Stmt{Op: dropOp, Table: p.name()}
}

// insertInto is what stands behind INSERT.
func (p *parser) insertInto() api.Stmt {
	p.must("INTO")
	s := api.Stmt{Op: insertOp, Table: p.name()}
	p.must("VALUES")
	p.bracketed(func() {
		p.list(func() { s.Row = append(s.Row, p.value()) })
	})
	return s
}

// update is what stands behind UPDATE.
func (p *parser) update() api.Stmt {
	s := api.Stmt{Op: updateOp, Table: p.name()}
	p.must("SET")
	p.list(func() { s.Sets = append(s.Sets, p.set()) })
	s.Where = p.where()
	return s
}

// set is a c = e of SET.
func (p *parser) set() api.Set {
	s := api.Set{Name: p.name()}
	p.must("=")
	s.E = p.expr()
	return s
}

// deleteFrom is what stands behind DELETE.
func (p *parser) deleteFrom() api.Stmt {
	p.must("FROM")
	return api.Stmt{Op: deleteOp, Table: p.name(), Where: p.where()}
}

// selectFrom is what stands behind SELECT.
func (p *parser) selectFrom() api.Stmt {
	p.must("*", "FROM")
	return api.Stmt{Op: selectOp, Table: p.name(), Where: p.where()}
}

// grant is what stands behind GRANT.
func (p *parser) grant() api.Stmt { return p.right(readOp, writeOp, "TO") }

// revoke is what stands behind REVOKE.
func (p *parser) revoke() api.Stmt { return p.right(unreadOp, unwriteOp, "FROM") }

// right is what is said of a READ by one Op, of a WRITE by the other one, with a word ahead of the role.
func (p *parser) right(read, write, ahead string) api.Stmt {
	s := api.Stmt{Op: read}
	if !p.take("READ") {
		p.must("WRITE")
		s.Op = write
	}
	p.must("ON")
	s.Table = p.name()
	p.must(ahead)
	s.Role = p.name()
	return s
}

// migrate is what stands behind MIGRATE.
func (p *parser) migrate() api.Stmt {
	s := p.one(map[string]func() api.Stmt{
		"COPY":  p.copyFrom,
		"JOIN":  p.joinFrom,
		"GROUP": p.groupFrom,
	})
	s.Check = p.check("CHECK")
	return s
}

// target is the beginning of a MIGRATE of an Op: u FROM t.
func (p *parser) target(op string) api.Stmt {
	s := api.Stmt{Op: op, Table: p.name()}
	p.must("FROM")
	s.Other = p.name()
	return s
}

// copyFrom is what stands behind MIGRATE COPY.
func (p *parser) copyFrom() api.Stmt {
	s := p.target(copyOp)
	p.bracketed(func() {
		p.list(func() { s.Names = append(s.Names, p.name()) })
	})
	return s
}

// joinFrom is what stands behind MIGRATE JOIN.
func (p *parser) joinFrom() api.Stmt {
	s := p.target(joinOp)
	p.must(",")
	s.Role = p.name()
	p.must("ON")
	s.Key = p.name()
	return s
}

// groupFrom is what stands behind MIGRATE GROUP.
func (p *parser) groupFrom() api.Stmt {
	s := p.target(groupOp)
	p.must("BY")
	c := p.name()
	p.must("SUM")
	s.Names = []string{c, p.name()}
	return s
}

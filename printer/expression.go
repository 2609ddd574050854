package printer

import (
	"strconv"
	"strings"

	"asof/api"
	"asof/values"
)

// The ranks of expressions, in increasing order.
const (
	choices = iota
	defaults
	ors
	ands
	nots
	comparisons
	sums
	products
	negations
	primaries
)

// windowWords are the words of the kinds of windows.
var windowWords = [...]string{api.AllW: "all", api.SlidingW: "sliding", api.TumblingW: "tumbling", api.SessionW: "session"}

// phrase is the text of an expression with its rank.
type phrase struct {
	text string
	rank int
}

// at returns the text of p at this rank.
func (p phrase) at(rank int) string {
	if p.rank < rank {
		return "(" + p.text + ")"
	}
	return p.text
}

// printers contains the printers of the kinds of expressions.
type printers map[int]func(x expression, operands []phrase) phrase

// newPrinters returns the printers of all kinds.
func newPrinters() printers {
	return printers{
		api.LitE:     expression.literal,
		api.FieldE:   expression.name,
		api.FeatureE: expression.name,
		api.LookupE:  expression.lookup,
		api.AggE:     expression.aggregate,
		api.UnaryE:   expression.unary,
		api.BinaryE:  expression.binary,
		api.IfE:      expression.choice,
		api.DefaultE: expression.fallback,
	}
}

// phraseOf returns the phrase of x, which has proper form.
func (p printers) phraseOf(x api.Expr) phrase {
	operands := make([]phrase, len(x.Args))
	for i, arg := range x.Args {
		operands[i] = p.phraseOf(arg)
	}
	return p[x.Kind](expression(x), operands)
}

// expression is an expression of proper form. Its methods are the printers of the kinds: each returns the phrase of an expression whose operands have these ones.
type expression api.Expr

func (x expression) literal(_ []phrase) phrase {
	if x.Val.Kind == api.KeyV {
		return primary("@"+x.Name, `"`+x.Val.S+`"`)
	}
	return primary(values.Format(x.Val), textOfUnit(x.Unit))
}

func (x expression) name(_ []phrase) phrase {
	return primary(x.Name)
}

func (x expression) lookup(operands []phrase) phrase {
	return primary(x.Name, "of", "("+operands[0].text+")")
}

func (x expression) aggregate(operands []phrase) phrase {
	argument, condition := operands[0].text, operands[1].text
	parts := []string{x.Table}
	if x.Op != "count" {
		parts = append(parts, argument)
	}
	if x.Param != 0 { // that of quantile or of decay
		parts = append(parts, strconv.Itoa(x.Param))
	}
	window := textOfWindow(x.Win)
	if condition != "true" { // only the literal true has this text
		window = words(window, "where", condition)
	}
	return primary(x.Op + "(" + strings.Join(append(parts, window), ", ") + ")")
}

func (x expression) unary(operands []phrase) phrase {
	operand := operands[0]
	switch x.Op {
	case "-":
		return phrase{"-" + operand.at(negations), negations}
	case "not":
		return phrase{words("not", operand.at(nots)), nots}
	}
	return primary("null(" + operand.text + ")")
}

func (x expression) binary(operands []phrase) phrase {
	return operation(x.Op, operands)
}

func (x expression) choice(operands []phrase) phrase {
	return phrase{words("if", operands[0].text, "then", operands[1].text, "else", operands[2].text), choices}
}

func (x expression) fallback(operands []phrase) phrase {
	return operation("default", operands)
}

// primary returns the phrase of these words, which never needs parentheses.
func primary(l ...string) phrase {
	return phrase{words(l...), primaries}
}

// operation returns the phrase of the operation op on two operands.
func operation(op string, operands []phrase) phrase {
	rank := rankOf(op)
	first := rank // operators of one rank associate to the left, but for comparisons
	if rank == comparisons {
		first = sums
	}
	return phrase{words(operands[0].at(first), op, operands[1].at(rank+1)), rank}
}

// rankOf returns the rank of the operation op on two operands.
func rankOf(op string) int {
	switch op {
	case "default":
		return defaults
	case "or":
		return ors
	case "and":
		return ands
	case "+", "-":
		return sums
	case "*", "/":
		return products
	}
	return comparisons
}

// textOfWindow returns the text of w.
func textOfWindow(w api.Window) string {
	word := windowWords[w.Kind]
	if w.Kind == api.AllW {
		return word
	}
	return words(word, strconv.Itoa(w.Size))
}

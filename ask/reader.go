package ask

import (
	"strings"

	"copse/api"
	"copse/dec"
)

// reader goes through a text word by word; behind its end all words are empty.
type reader struct{ rest string }

// read is the query, and the dim, that a printed text was made of, and some query, and some dim, of any other text.
func read(s string) (api.Query, int) {
	r := reader{s}
	q := r.kind()
	r.pass()
	dim := 0
	word := r.word()
	for word != "budget" && dim < api.MaxDim {
		q.Region[dim] = spanOf(word)
		dim++
		word = r.word()
	}
	q.Budget = smallOf(r.word())
	return q, dim
}

// kind takes the words ahead of the region's.
func (r *reader) kind() api.Query {
	var q api.Query
	head := r.word()
	q.Class = smallOf(r.word())
	switch head {
	case "range":
		q.Kind = api.QRange
		r.pass()
		q.Lo = numberOf(r.word())
		r.pass()
		q.Hi = numberOf(r.word())
	case "best":
		q.Kind = api.QBest
	case "rises", "falls":
		q.Kind, q.Falls = api.QMono, head == "falls"
		r.pass()
		q.Feature = smallOf(r.word())
	}
	return q
}

func (r *reader) word() string {
	word, rest, _ := strings.Cut(r.rest, " ")
	r.rest = rest
	return word
}

// pass goes past a word that tells nothing of a query: where another one stands, the text isn't given back.
func (r *reader) pass() {
	r.word()
}

func spanOf(word string) api.Span {
	lo, hi, _ := strings.Cut(word, points)
	return api.Span{Lo: numberOf(lo), Hi: numberOf(hi)}
}

// numberOf is 0 of a word that is no number's: that word isn't given back.
func numberOf(word string) int {
	n, _ := dec.Scan(word)
	return n
}

// smallOf takes a decimal for a number with a point that has no part; a word that has a part isn't given back.
func smallOf(word string) int {
	return numberOf(word) >> api.Frac
}

// Package sample makes what the tests of several layers are tried with.
package sample

// Texts answers all texts of at most n of the parts, and the empty one.
func Texts(n int, parts ...string) []string {
	all := []string{""}
	longest := all
	for range n {
		var longer []string
		for _, s := range longest {
			for _, part := range parts {
				longer = append(longer, s+part)
			}
		}
		all = append(all, longer...)
		longest = longer
	}
	return all
}

// Unsteady answers the texts of which a second round, in the other order,
// has other answers than the first one.
func Unsteady(texts []string, answers func(s string) string) []string {
	first := make([]string, len(texts))
	for i, s := range texts {
		first[i] = answers(s)
	}
	var unsteady []string
	for i := len(texts) - 1; i >= 0; i-- {
		if answers(texts[i]) != first[i] {
			unsteady = append(unsteady, texts[i])
		}
	}
	return unsteady
}

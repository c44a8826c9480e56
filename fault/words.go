package fault

import "pidgin/api"

const noWord = "?"

// langWord tells the word of a language.
func langWord(lang int) string {
	words := [...]string{
		api.LangNone:  "pidgin",
		api.LangArith: "arith",
		api.LangGlob:  "glob",
		api.LangBre:   "bre",
		api.LangEre:   "ere",
		api.LangForm:  "printf",
		api.LangTest:  "test",
		api.LangExpr:  "expr",
		api.LangSed:   "sed",
		api.LangFind:  "find",
		api.LangShell: "sh",
		api.LangKern:  "kern",
	}
	switch {
	case lang < 0:
		fallthrough
	case lang >= len(words):
		return noWord
	default:
		return words[lang]
	}
}

// codeWord tells the word of a code.
func codeWord(code int) string {
	switch code {
	case api.CodeNone:
		return "none"
	case api.CodeOther:
		return "other"
	}
	if err := Of(code); err != nil {
		return err.Error()
	}
	return noWord
}

package text

import (
	"fmt"
	"slices"
	"strings"
	"testing"
)

func equal(t *testing.T, what string, got, want any) {
	t.Helper()
	if g, w := fmt.Sprintf("%q", got), fmt.Sprintf("%q", want); g != w {
		t.Errorf("%s:\n got %s\nwant %s", what, g, w)
	}
}

func list(l ...any) []any { return l }

func TestP2_1(t *testing.T) {
	equal(t, "valid", list(Valid(""), Valid("aé\x00"), Valid("\xff"), Valid("a\xc3")), list(true, true, false, false))
	equal(t, "points", list(Points("aé\xff\xc3"), Points("")), list([]int{97, 233, 65533, 65533}, []int{}))
	equal(t, "fold", list(Fold("AZaz09[@É\xff"), Fold("")), list("azaz09[@É\xff", ""))
	equal(t, "trim", list(Trim("  a b \t "), Trim("   "), Trim("\na ")), list("a b \t", "", "\na"))
}

func TestP2_2(t *testing.T) {
	for s, want := range map[string][]string{"Unit 7, Block-B": {"unit", "7", "block", "b"}, "": {}, "--": {}, "a1é\xff_Z": {"a1é\xff", "z"}, " x ": {"x"}, "[a]{": {"a"}} {
		equal(t, s, Tokens(s), want)
	}
	for s, want := range map[string]string{"AB-2026 x": "A+-9+ a", "": "", "a": "a", "aA9é": "aA9u", "éü\xff日": "u+", "++--  ": "++--  ", "99": "9+", "9+": "9+", "uu": "a+", "aaBB\x00\x00": "a+A+\x00\x00"} {
		equal(t, s, Pattern(s), want)
	}
}

func TestP2_3(t *testing.T) {
	for s, want := range map[string][]string{"": {}, "\n": {""}, "a": {"a"}, "a\n": {"a"}, "a\r\nb": {"a", "b"}, "a\r\r\n\n\r": {"a\r", "", "\r"}, "a\rb\r": {"a\rb\r"}, "\r\n": {""}} {
		equal(t, s, Lines(s), want)
	}
}

func TestP2_4(t *testing.T) {
	l := []string{"b", "a", "b", "", "B", "\xff"}
	equal(t, "set", list(Set(l), Set(nil), l), list([]string{"", "B", "a", "b", "\xff"}, []string{}, []string{"b", "a", "b", "", "B", "\xff"}))
	equal(t, "is set", list(IsSet(nil), IsSet([]string{"x"}), IsSet(Set(l)), IsSet([]string{"a", "a"}), IsSet([]string{"b", "a"})), list(true, true, true, false, false))
	one := []string{"a"}
	Set(one)[0] = "x"
	equal(t, "no shared memory", one, []string{"a"})
}

func TestConsequences(t *testing.T) {
	for _, s := range []string{"", " A b ", "\xffÉ É", "x\ry", strings.Repeat("Z 1", 9)} {
		equal(t, s, list(Fold(Fold(s)), Trim(Trim(s)), len(Lines(s)) < 2), list(Fold(s), Trim(s), true))
		equal(t, s, Set(Set(Tokens(s))), Set(Tokens(s)))
	}
	for range groups("abc1") {
		break
	}
	if !slices.Equal(Points("a"), []int{97}) {
		t.Error("points")
	}
}

func TestClasses(t *testing.T) {
	equal(t, "pattern", list(Pattern("/0:9"), Pattern("@A[Z"), Pattern("`a{z"), Pattern("\x7f\u0080")), list("/9:9", "@A[A", "`a{a", "\x7fu"))
	equal(t, "tokens", list(Tokens("/0:9"), Tokens("@A[Z"), Tokens("`a{z"), Tokens("\x7f\x80")), list([]string{"0", "9"}, []string{"a", "z"}, []string{"a", "z"}, []string{"\x80"}))
}

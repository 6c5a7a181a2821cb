// Package rules holds tests of what is asked of all layers alike: their calls' signatures, and the language that they keep to.
package rules

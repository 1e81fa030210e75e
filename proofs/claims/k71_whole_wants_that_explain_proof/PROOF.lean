import PyProof.Rows.All
import Wide.All
import OpenK.AllK
import Wide.FinOn
import KE.KStateDown
import HandS.ForMost
import HandS.Exc
import HandS.WordsExc
import HandS.Defaults
import HandS.IsInst
import HandS.Walk
import HandS.HeadHook1
import HandS.HeadHook2
import HandS.Deep
import HandS.DeepEq
import HandS.Small
import HandS.TupAny
import HandS.Set
import HandS.SetKeys
import HandS.SetFor
import HandS.Strs
import HandS.TupSets
import HandS.Style
import HandS.DictComp
import KE.KDictPairs
import KE.KeyNested
import KE.KIsAll
import PyProof.DictTruth
import HandS.TryOnly
import HandS.ListItems
import HandS.TupMul
import PyProof.EqAt
import HandS.Lambda
import HandS.HeadEnd
import HandS.EndTab
import PyProof.ReprRoads
import PyProof.Rows.RegFStrParts
import Lean
import HandS.Head0
import HandS.Head1
import HandS.Head2
import HandS.HeadWalk
import PySem.Challenge.RW_refundtrees_k71_whole_wants_that_explain
section
set_option Elab.async false
set_option linter.all false
set_option maxRecDepth 100000
set_option maxHeartbeats 4000000
/-! Refundtrees: what every law's proof shares: callees packed, isinstance answered, module ints. -/
namespace Rt
open PySem PySem.Spec PyProof.Rows L2

/-! ### a def of the module, packed: where it stands, how it binds, what it promises -/
structure Cal (P : Program) (w : World) (K : PySem.W.Frag) (mg : Str → Option Value) (base : Heap) (CX : CXT) (k : Nat) (x : Str) (ps : List Str) (sp : Sp) : Prop where
  ex : ∃ fd, Binds K fd ps [] ∧ FnOk P w K mg base CX k (He.ga K x) fd ps sp
  gm : mg x = some (.ref (He.ga K x))
  kp : PySem.W.keepIn K (.ref (He.ga K x)) = true
section
variable {X : Cx} {CX : CXT} {k : Nat} {x : Str} {ps : List Str} {sp : Sp} {E : XK} {e : Expr} {es : List Expr} {p pos : Pos} {t : TA}
theorem pe_cal (C : Cal X.prog X.w X.K X.mg X.base CX k x ps sp) (hr : Room k X.A) (hg : Gl X x) (hx : Passes CX X E) (ha : PA X (e :: es) t)
    (hdb : (x == ("__debug__" : Str)) = false := by decide) (h1 : starEach (e :: es) X.env = (false, eval e X.env) :: starEach es X.env := by rfl)
    (h2 : (backTo pos (starEach es X.env)).any (·.1) = false := by rfl) : PE X (.Call (.Name x p) (e :: es) [] pos) (tCall sp [] E t) := by
  obtain ⟨fd, b, F⟩ := C.ex
  exact pe_call F hr hg C.gm C.kp b .nil hx ha hdb h1 h2
end

/-! ### module ints and texts -/
section
variable {X : Cx} {x : Str} {pos : Pos}
theorem pe_gint {i : Int} (hg : Gl X x) (hm : ∃ t, X.mg x = some (.int i t)) (hd : (x == ("__debug__" : Str)) = false := by decide) : PE X (.Name x pos) (tC (.int i)) := by
  obtain ⟨t, h⟩ := hm
  exact pe_glob hg h ⟨_, rfl⟩ hd
theorem pe_gstr {z : Str} (hg : Gl X x) (hm : ∃ t, X.mg x = some (.str z t)) (hd : (x == ("__debug__" : Str)) = false := by decide) : PE X (.Name x pos) (tC (.str z)) := by
  obtain ⟨t, h⟩ := hm
  exact pe_glob hg h ⟨_, rfl⟩ hd
end

/-! ### what a value is, for isinstance -/
def kinds : List String := ["NoneType", "bool", "int", "str", "tuple", "list", "dict"]
/-- the value's type by its name -/
inductive Ts (K : PySem.W.Frag) (H : Hp) : V → String → Prop where
  | non : Ts K H .non "NoneType"
  | bl (b : Bool) : Ts K H (.bl b) "bool"
  | int (i : Int) : Ts K H (.int i) "int"
  | str (x : Str) : Ts K H (.str x) "str"
  | tup {a : Addr} {xs : List V} (h : SqT K H a xs) : Ts K H (.ref a) "tuple"
  | lst {a : Addr} {xs : List V} (h : H a = some (.lst xs)) : Ts K H (.ref a) "list"
  | dct {a : Addr} {kvs : List (Key × V)} (h : H a = some (.dK kvs)) : Ts K H (.ref a) "dict"
theorem Ts.x {K : PySem.W.Frag} {H : Hp} {x : V} {T : String} (h : Ts K H x T) : TyX K H x (.type T) := by
  cases h with
  | non => exact .base .non
  | bl b => exact .base (.bl b)
  | int i => exact .base (.int i)
  | str x => exact .base (.str x)
  | tup h =>
    rcases h with (h | ⟨_, h⟩) | ⟨_, _, _, e, c, _⟩
    · exact .base (.tup h)
    · exact .fTuple h
    · exact .kTuple e c
  | lst h => exact .base (.lst h)
  | dct h => exact .base (.dK h)
theorem Ts.mem {K : PySem.W.Frag} {H : Hp} {x : V} {T : String} (h : Ts K H x T) : T ∈ kinds := by
  cases h <;> decide
def asks : List String := ["int", "bool", "str", "list", "tuple", "dict"]
def answ (T c : String) : Bool := decide (T = c) || (decide (T = "bool") && decide (c = "int"))
theorem answ_all : (kinds.all fun T => asks.all fun c => decide (kitB T c = some (answ T c))) = true := by decide +kernel
theorem answ_of {T c : String} (hT : T ∈ kinds) (hc : c ∈ asks) {K : PySem.W.Frag} : PySem.W.kitOne K (.type T) (.type c) = some (answ T c) := by
  have h := List.all_eq_true.mp (List.all_eq_true.mp answ_all T hT) c hc
  exact kit_ty (of_decide_eq_true h)

/-- isinstance(x, c), c one built-in class -/
def rIs (K : PySem.W.Frag) (cn : String) : List V → Hp → VK → Prop := fun xs H Q => ∃ x T, xs = [x, .ty cn] ∧ Ts K H x T ∧ Q (.bl (answ T cn)) H
theorem call_is {X : Cx} {cn : String} (hc : cn ∈ asks) : CallR X (.builtin "isinstance") (fun xs H Q => ∃ x T, xs = [x, .ty cn] ∧ Ts X.K H x T ∧ Q (.bl (answ T cn)) H) := by
  intro pins s σ H xs us Q I r h
  obtain ⟨x, T, rfl, t, q⟩ := h
  exact call_isi pins s σ H _ us Q I r ⟨x, .ty cn, .type T, .type cn, _, rfl, .ty cn, t.x, answ_of t.mem hc, q⟩
/-- isinstance(x, (list, tuple)) -/
theorem call_isLT {X : Cx} : CallR X (.builtin "isinstance") (fun xs H Q => ∃ x T tp, xs = [x, .ref tp] ∧ H tp = some (.tup [.ty "list", .ty "tuple"]) ∧ Ts X.K H x T ∧ Q (.bl (decide (T = "list") || decide (T = "tuple"))) H) := by
  intro pins s σ H xs us Q I r h
  obtain ⟨x, T, tp, rfl, ht, t, q⟩ := h
  have e1 : answ T "list" = decide (T = "list") := by
    have h1 : decide (("list" : String) = "int") = false := by decide
    unfold answ
    rw [h1, Bool.and_false, Bool.or_false]
  have e2 : answ T "tuple" = decide (T = "tuple") := by
    have h1 : decide (("tuple" : String) = "int") = false := by decide
    unfold answ
    rw [h1, Bool.and_false, Bool.or_false]
  have k1 : PySem.W.kitOne X.K (.type T) (.type "list") = some (decide (T = "list")) := e1 ▸ answ_of t.mem (by decide)
  have k2 : PySem.W.kitOne X.K (.type T) (.type "tuple") = some (decide (T = "tuple")) := e2 ▸ answ_of t.mem (by decide)
  refine call_isiT pins s σ H _ us Q I r ⟨x, tp, [.ty "list", .ty "tuple"], .type T, [.type "list", .type "tuple"], _, rfl, ht, .cons (.ty _) (.cons (.ty _) .nil), t.x, ?_, q⟩
  refine kitAny_cons k1 (fun hf => ?_) (fun ht => by rw [ht, Bool.true_or])
  rw [hf, Bool.false_or]
  exact kitAny_cons k2 (fun hf => by rw [hf]; exact kitAny_nil) (fun ht => ht)
end Rt
namespace Rt
open PySem PySem.Spec PyProof.Rows L2
section
variable {P : Program} {w : World} {K : PySem.W.Frag} {mg : Str → Option Value} {base : Heap} {x qual : Str} {params : Arguments} {body : List Stmt} {scope : Scope} {f : Addr} {fd : FuncData} {N ps : List Str} {k : Nat} {sp : Sp}
/-- a def that lets nothing out -/
theorem ok0 (F : FunD K x qual params body scope [] [] f fd) (S : FnScope N ps scope) (len : ∀ vs H Q E, sp vs H Q E → vs.length = ps.length)
    (hbody : ∀ (cdv : Value) (A : Around) (outer : List Env) (s : Shared) (H : Hp) (vs : List V) (Q : VK) (E : XK), Room k (A.deeper (envOfC qual scope s.heap.objs.size f cdv)) → sp vs H Q E →
      ∃ t, PSs (cxOf CX0 P w K mg base N qual scope f cdv A outer s H E).nox body t ∧ t { nx := fun _ H' => Q .non H', rt := Q } (start N vs) H) : FnOk P w K mg base CX0 (k + 1) f fd ps sp :=
  F.ok S len fun cdv A outer s H vs Q E hr h => by
    obtain ⟨t, h1, h2⟩ := hbody cdv A outer s H vs Q E hr h
    exact ⟨t, PSs.nox h1, h2⟩
theorem Cal.of (ex : ∃ fd, FunD K x qual params body scope [] [] (He.ga K x) fd ∧ FnOk P w K mg base CX0 k (He.ga K x) fd ps sp) (gm : mg x = some (.ref (He.ga K x)))
    (h : ∀ (kV doc pm : Value) (an : Option Addr) (cdv ct : Value) (us : List Value), us.length = ps.length → bindArgs (PySem.W.fnOf x qual params body scope .none kV doc pm an cdv ct) ⟨us, []⟩ = pure (ps.zip us)) :
    Cal P w K mg base CX0 k x ps sp := by
  obtain ⟨fd, F, G⟩ := ex
  exact ⟨⟨fd, F.bindsN h, G⟩, gm, F.kp⟩
end
end Rt
namespace Rt
theorem ifT {c : Bool} {A B : Prop} (e : c = true) (h : A) : if c = true then A else B := by rw [if_pos e]; exact h
theorem ifF {c : Bool} {A B : Prop} (e : c = false) (h : B) : if c = true then A else B := by rw [if_neg (by rw [e]; decide)]; exact h
theorem ifB {c : Bool} {A B : Prop} (h1 : c = true → A) (h2 : c = false → B) : if c = true then A else B := by
  cases e : c with
  | true => exact ifT rfl (h1 e)
  | false => exact ifF rfl (h2 e)
end Rt
namespace Rt
open PySem PySem.Spec PyProof.Rows L2
/-! ### a comprehension whose turns leave what was tracked as it was: its list at D by the turn -/
structure LcP (H1 : Hp) (D : Addr) (L : Nat → List V) (i : Nat) (H : Hp) : Prop where
  same : Same H1 H
  at_ : H D = some (.lst (L i))
section
variable {H1 H : Hp} {D : Addr} {L : Nat → List V} {i : Nat}
theorem LcP.zero (nD : H1 D = none) (e : L 0 = []) : LcP H1 D L 0 (upd H1 D (.lst [])) := by
  refine ⟨fun b o h => ?_, by rw [upd_same, e]⟩
  rw [upd_ne (ne_of_none h nD)]
  exact h
theorem LcP.put {y : V} (h : LcP H1 D L i H) (nD : H1 D = none) (e : L (i + 1) = L i ++ [y]) (hl : (L i).length < sizeLine) : ∃ acc, H D = some (.lst acc) ∧ acc.length < sizeLine ∧ LcP H1 D L (i + 1) (upd H D (.lst (acc ++ [y]))) := by
  refine ⟨L i, h.at_, hl, fun b o hb => ?_, by rw [upd_same, e]⟩
  rw [upd_ne (ne_of_none hb nD)]
  exact h.same b o hb
theorem LcP.skip (h : LcP H1 D L i H) (e : L (i + 1) = L i) : LcP H1 D L (i + 1) H := ⟨h.same, by rw [e]; exact h.at_⟩
theorem LcP.ext {H' : Hp} (h : LcP H1 D L i H) (s : Same H H') : LcP H1 D L i H' := ⟨h.same.trans s, s _ _ h.at_⟩
end
theorem Same.new {H : Hp} {p : Addr} {o : HO} (n : H p = none) : Same H (upd H p o) := fun b u h => by
  rw [upd_ne (ne_of_none h n)]
  exact h
theorem take_one {α : Type} {xs : List α} {i : Nat} {x : α} (h : xs[i]? = some x) : xs.take (i + 1) = xs.take i ++ [x] := by
  rw [List.take_succ, h]
  rfl
theorem map_one {α β : Type} (f : α → β) {xs : List α} {i : Nat} {x : α} (h : xs[i]? = some x) : (xs.take (i + 1)).map f = (xs.take i).map f ++ [f x] := by
  rw [take_one h, List.map_append]
  rfl
theorem filt_one {α β : Type} (f : α → β) (p : α → Bool) {xs : List α} {i : Nat} {x : α} (h : xs[i]? = some x) (hp : p x = true) : ((xs.take (i + 1)).filter p).map f = ((xs.take i).filter p).map f ++ [f x] := by
  rw [take_one h, List.filter_append, List.map_append, List.filter_cons, if_pos hp]
  rfl
theorem filt_no {α β : Type} (f : α → β) (p : α → Bool) {xs : List α} {i : Nat} {x : α} (h : xs[i]? = some x) (hp : p x = false) : ((xs.take (i + 1)).filter p).map f = ((xs.take i).filter p).map f := by
  rw [take_one h, List.filter_append, List.filter_cons, if_neg (by rw [hp]; decide), List.filter_nil, List.append_nil]
theorem line_of {n m : Nat} (h : n ≤ m) (hm : m ≤ 100000) : n < sizeLine := by
  rw [sizeLine_eq]
  omega
end Rt
namespace Rt
open PySem PySem.Spec PyProof.Rows L2
/-! ### a list or a tuple -/
def Sq (K : PySem.W.Frag) (H : Hp) (a : Addr) (xs : List V) : Prop := SqL K H a xs ∨ SqT K H a xs
theorem sqT_same {K : PySem.W.Frag} {H H' : Hp} {a : Addr} {xs : List V} (e : Same H H') (h : SqT K H a xs) : SqT K H' a xs := by
  rcases h with (h | ⟨o, h⟩) | h
  · exact .inl (.inl (e _ _ h))
  · exact .inl (.inr ⟨o, e _ _ h⟩)
  · exact .inr h
theorem Sq.same {K : PySem.W.Frag} {H H' : Hp} {a : Addr} {xs : List V} (h : Sq K H a xs) (e : Same H H') : Sq K H' a xs := h.elim (fun h => .inl (e.seq h)) fun h => .inr (sqT_same e h)
section
variable {X : Cx} {tg : Expr}
def iSeq (K : PySem.W.Frag) (tl : TE) : TI := fun σ H R => tl σ H fun x H1 => ∃ a, x = .ref a ∧ (((∃ xs, SqL K H1 a xs) ∧ R (Itl K a) H1) ∨ ((∃ xs, SqT K H1 a xs) ∧ R (Itt K a) H1))
/-- what is walked is a list or a tuple -/
theorem pi_seq {l : Expr} {tl : TE} (hl : PE X l tl) : PI X tg l (iSeq X.K tl) := by
  refine ⟨fun pins s σ H R I h => ?_⟩
  refine thn (hl.run pins s σ H _ I h) fun v s1 ⟨x, H1, I1, r1, a, e, q1⟩ => ?_
  subst e
  have he : PE X l (fun _ H Q => Q (.ref a) H) → True := fun _ => trivial
  cases r1
  have pushed : ∀ {o : Obj}, Inv X pins σ H1 { s1 with heap := s1.heap.push o } := fun {o} => I1.kept (t' := s1.toks) fun b u e => Heap.get?_push_of_some _ e
  have own : ∀ b ∈ [s1.heap.objs.size], FpOk X pins H1 b := fun b hb => by
    rw [List.mem_singleton.mp hb]
    exact I1.fpOk (Nat.le_refl _) I1.fresh
  rcases q1 with ⟨⟨xs, hq⟩, q⟩ | ⟨⟨xs, hq⟩, q⟩
  · obtain ⟨its, rv, pl, _⟩ := I1.list hq
    exact wpAny_pyIter_list pl.isList ⟨s1.heap.objs.size, [s1.heap.objs.size], _, _, H1, rfl, pushed, turn_list a _, ⟨_, Heap.get?_push_size _ rfl, rfl, rfl⟩, own, q⟩
  · obtain ⟨its, rv, pl, _⟩ := I1.tuple hq
    exact wpAny_pyIter_tuple (show s1.heap.IsTuple a its.toArray from pl) ⟨s1.heap.objs.size, [s1.heap.objs.size], _, _, H1, rfl, pushed, turn_tuple a _, ⟨_, Heap.get?_push_size _ rfl, rfl, rfl⟩, own, q⟩
theorem seq_by {K : PySem.W.Frag} {H : Hp} {a : Addr} {xs : List V} {R : It → Hp → Prop} (h : Sq K H a xs) (f : ∀ (J : It) (G : Hp → Prop), Walk J xs.length G (YAt xs) → (∀ H', Same H H' → G H') → R J H) :
    ((∃ xs, SqL K H a xs) ∧ R (Itl K a) H) ∨ ((∃ xs, SqT K H a xs) ∧ R (Itt K a) H) := by
  rcases h with h | h
  · exact .inl ⟨⟨xs, h⟩, f _ _ walk_list fun H' e => e.seq h⟩
  · exact .inr ⟨⟨xs, h⟩, f _ _ walk_tup fun H' e => sqT_same e h⟩
end
/-- what a comprehension asks of the thing that it walks -/
abbrev LcR (g : TG) (tt : TT) (te : TE) (vs : List Nat) (σ : L2.St) (Q : Addr → Hp → Prop) : It → Hp → Prop := fun J H1 => ∀ D, H1 D = none → ∃ W : Nat → Nat → Hp → Prop, (∃ m, W 0 m (upd H1 D (.lst []))) ∧ ∀ i m H, W i m H →
  (J.stop i H ∧ Q D H) ∨ (J.go i H ∧ ∃ Nx : Hp → Prop, (∀ H', Nx H' → ∃ m', m' < m ∧ W (i + 1) m' H') ∧ ∀ x H', J.yld i H x H' → g x (wipe σ vs) H' fun σ2 H2 => wipe σ2 vs = wipe σ vs ∧ tt σ2 H2 fun b H3 =>
    if b = true then te σ2 H3 fun y H4 => ∃ acc, H4 D = some (.lst acc) ∧ acc.length < sizeLine ∧ Nx (upd H4 D (.lst (acc ++ [y]))) else Nx H3)
/-- a comprehension over a list or a tuple, its turns leaving what was tracked -/
theorem lc_seq {K : PySem.W.Frag} {H1 : Hp} {a : Addr} {xs : List V} {g : TG} {tt : TT} {te : TE} {vs : List Nat} {σ : L2.St} {Q : Addr → Hp → Prop} (h : Sq K H1 a xs) (L : Nat → List V) (h0 : L 0 = [])
    (turn : ∀ D, H1 D = none → ∀ i x H, xs[i]? = some x → LcP H1 D L i H → g x (wipe σ vs) H fun σ2 H2 => wipe σ2 vs = wipe σ vs ∧ tt σ2 H2 fun b H3 =>
      if b = true then te σ2 H3 fun y H4 => ∃ acc, H4 D = some (.lst acc) ∧ acc.length < sizeLine ∧ LcP H1 D L (i + 1) (upd H4 D (.lst (acc ++ [y]))) else LcP H1 D L (i + 1) H3)
    (fin : ∀ D H, H1 D = none → Same H1 H → H D = some (.lst (L xs.length)) → Q D H) :
    ((∃ xs, SqL K H1 a xs) ∧ LcR g tt te vs σ Q (Itl K a) H1) ∨ ((∃ xs, SqT K H1 a xs) ∧ LcR g tt te vs σ Q (Itt K a) H1) := by
  refine seq_by (R := LcR g tt te vs σ Q) h fun J G w g0 D nD => ?_
  refine lc_it w (LcP H1 D L) (LcP.zero nD h0) (fun i H _ p => g0 H p.same) ?_ (fun H p => fin D H nD p.same p.at_)
  rintro i x H2 H3 hi p ⟨rfl, hx⟩
  exact turn D nD i x H3 hx p
end Rt
end
section
set_option Elab.async false
set_option linter.all false
set_option maxRecDepth 100000
set_option maxHeartbeats 4000000
namespace Rt
open PySem PySem.Spec PyProof.Rows L2
/-! ### the text by places -/
def top (i : Nat) : Stmt := PySem.Challenge.pw_refundtrees_k71_whole_wants_that_explain.main.body.getD i (.Pass ⟨0, 0, 0, 0⟩)
abbrev s_NoSkill_init : Stmt := inClass (top 2) 0
abbrev s_NoSeen_init : Stmt := inClass (top 3) 0
abbrev s_is_word : Stmt := top 7
abbrev s_is_one_of : Stmt := top 8
abbrev s_is_ordered : Stmt := top 9
abbrev s_are_unlike : Stmt := top 10
abbrev s_is_seen : Stmt := top 13
abbrev s_explains : Stmt := top 14
abbrev s_greatest_wants : Stmt := top 15
abbrev s_must_be_names : Stmt := top 16
abbrev s_must_be_seen : Stmt := top 17
abbrev s_is_answer : Stmt := top 18
abbrev s_are_wants_of_all : Stmt := top 19
abbrev s_is_explained : Stmt := top 20
abbrev s_most_wanted : Stmt := top 21
abbrev s_law_pool : Stmt := top 23
abbrev s_law_take : Stmt := top 24
abbrev s_law_one : Stmt := top 25
abbrev s_law_told_names : Stmt := top 26
abbrev s_law_parts : Stmt := top 27
abbrev s_law_answers : Stmt := top 28
abbrev s_law_all_wants : Stmt := top 29
abbrev s_law_right : Stmt := top 30
abbrev s_law_bent : Stmt := top 31
abbrev s_law : Stmt := top 32
theorem sc_NoSkill_init : FnScope ["self", "skill"] ["self", "skill"] (defScope s_NoSkill_init) := ⟨rfl, rfl, rfl, by decide +kernel, rfl, by decide +kernel, by decide +kernel⟩
theorem sc_NoSeen_init : FnScope ["self", "seen"] ["self", "seen"] (defScope s_NoSeen_init) := ⟨rfl, rfl, rfl, by decide +kernel, rfl, by decide +kernel, by decide +kernel⟩
theorem sc_is_word : FnScope ["value", "sign"] ["value"] (defScope s_is_word) := ⟨rfl, rfl, rfl, by decide +kernel, rfl, by decide +kernel, by decide +kernel⟩
theorem sc_is_one_of : FnScope ["names", "value"] ["names", "value"] (defScope s_is_one_of) := ⟨rfl, rfl, rfl, by decide +kernel, rfl, by decide +kernel, by decide +kernel⟩
theorem sc_is_ordered : FnScope ["names", "value", "name"] ["names", "value"] (defScope s_is_ordered) := ⟨rfl, rfl, rfl, by decide +kernel, rfl, by decide +kernel, by decide +kernel⟩
theorem sc_are_unlike : FnScope ["names", "values", "value"] ["names", "values"] (defScope s_are_unlike) := ⟨rfl, rfl, rfl, by decide +kernel, rfl, by decide +kernel, by decide +kernel⟩
theorem sc_is_seen : FnScope ["names", "value", "row"] ["names", "value"] (defScope s_is_seen) := ⟨rfl, rfl, rfl, by decide +kernel, rfl, by decide +kernel, by decide +kernel⟩
theorem sc_explains : FnScope ["names", "wants", "seen", "skill"] ["names", "wants", "seen"] (defScope s_explains) := ⟨rfl, rfl, rfl, by decide +kernel, rfl, by decide +kernel, by decide +kernel⟩
theorem sc_greatest_wants : FnScope ["names", "seen", "wants", "skill"] ["names", "seen"] (defScope s_greatest_wants) := ⟨rfl, rfl, rfl, by decide +kernel, rfl, by decide +kernel, by decide +kernel⟩
theorem sc_must_be_names : FnScope ["names", "name"] ["names"] (defScope s_must_be_names) := ⟨rfl, rfl, rfl, by decide +kernel, rfl, by decide +kernel, by decide +kernel⟩
theorem sc_must_be_seen : FnScope ["names", "seen"] ["names", "seen"] (defScope s_must_be_seen) := ⟨rfl, rfl, rfl, by decide +kernel, rfl, by decide +kernel, by decide +kernel⟩
theorem sc_is_answer : FnScope ["names", "row", "build", "skill", "let"] ["names", "row"] (defScope s_is_answer) := ⟨rfl, rfl, rfl, by decide +kernel, rfl, by decide +kernel, by decide +kernel⟩
theorem sc_are_wants_of_all : FnScope ["names", "value", "skill"] ["names", "value"] (defScope s_are_wants_of_all) := ⟨rfl, rfl, rfl, by decide +kernel, rfl, by decide +kernel, by decide +kernel⟩
theorem sc_is_explained : FnScope ["want", "seen", "skill", "answers", "build", "asked", "let", "name"] ["want", "seen", "skill"] (defScope s_is_explained) := ⟨rfl, rfl, rfl, by decide +kernel, rfl, by decide +kernel, by decide +kernel⟩
theorem sc_most_wanted : FnScope ["names", "seen", "skill", "builds", "build", "asked", "let", "name"] ["names", "seen", "skill"] (defScope s_most_wanted) := ⟨rfl, rfl, rfl, by decide +kernel, rfl, by decide +kernel, by decide +kernel⟩
theorem sc_law_pool : FnScope ["_law_script", "_law_k", "_law_cell", "_law_big", "_law_mixed"] ["_law_script", "_law_k"] (defScope s_law_pool) := ⟨rfl, rfl, rfl, by decide +kernel, rfl, by decide +kernel, by decide +kernel⟩
theorem sc_law_take : FnScope ["_law_pool_here", "_law_bound", "_law_result"] ["_law_pool_here", "_law_bound"] (defScope s_law_take) := ⟨rfl, rfl, rfl, by decide +kernel, rfl, by decide +kernel, by decide +kernel⟩
theorem sc_law_one : FnScope ["_law_pool_here", "_law_things"] ["_law_pool_here", "_law_things"] (defScope s_law_one) := ⟨rfl, rfl, rfl, by decide +kernel, rfl, by decide +kernel, by decide +kernel⟩
theorem sc_law_told_names : FnScope ["_law_pool_here", "_law_top", "_law_some"] ["_law_pool_here", "_law_top"] (defScope s_law_told_names) := ⟨rfl, rfl, rfl, by decide +kernel, rfl, by decide +kernel, by decide +kernel⟩
theorem sc_law_parts : FnScope ["_law_some", "_law_found", "_law_name", "_law_row"] ["_law_some"] (defScope s_law_parts) := ⟨rfl, rfl, rfl, by decide +kernel, rfl, by decide +kernel, by decide +kernel⟩
theorem sc_law_answers : FnScope ["_law_pool_here", "_law_names", "_law_many", "_law_wants", "_law_name", "_law_found", "_law_turn", "_law_skill", "_law_build", "_law_lets", "_law_other"] ["_law_pool_here", "_law_names", "_law_many"] (defScope s_law_answers) := ⟨rfl, rfl, rfl, by decide +kernel, rfl, by decide +kernel, by decide +kernel⟩
theorem sc_law_all_wants : FnScope ["_law_names", "_law_rows", "_law_skill", "_law_longer", "_law_row", "_law_some", "_law_other"] ["_law_names"] (defScope s_law_all_wants) := ⟨rfl, rfl, rfl, by decide +kernel, rfl, by decide +kernel, by decide +kernel⟩
theorem sc_law_right : FnScope ["_law_wants", "_law_seen", "_law_build", "_law_skill", "_law_lets", "_law_name"] ["_law_wants", "_law_seen"] (defScope s_law_right) := ⟨rfl, rfl, rfl, by decide +kernel, rfl, by decide +kernel, by decide +kernel⟩
theorem sc_law_bent : FnScope ["_law_pool_here", "_law_names", "_law_wants", "_law_skill", "_law_found", "_law_some", "_law_others", "_law_name"] ["_law_pool_here", "_law_names", "_law_wants"] (defScope s_law_bent) := ⟨rfl, rfl, rfl, by decide +kernel, rfl, by decide +kernel, by decide +kernel⟩
theorem sc_law : FnScope ["_law_script", "_law_k", "_law_pool_here", "_law_names", "_law_seen", "_law_rows", "_law_wants", "_law_odd", "_law_told"] ["_law_script"] (defScope s_law) := ⟨rfl, rfl, rfl, by decide +kernel, rfl, by decide +kernel, by decide +kernel⟩
/-! ### the facts of the top -/
def dG (i : Nat) (x : Str) : He.DefD := ⟨(x, none), x, x, defArgs (top i), defBody (top i), defScope (top i), [], []⟩
def dM (c : Str) (i j : Nat) (m q : Str) : He.DefD := ⟨(c, some m), m, q, defArgs (inClass (top i) j), defBody (inClass (top i) j), defScope (inClass (top i) j), [], []⟩
def fn : List He.DefD := [dG 7 "is_word", dG 8 "is_one_of", dG 9 "is_ordered", dG 10 "are_unlike", dG 13 "is_seen", dG 14 "explains", dG 15 "greatest_wants", dG 16 "must_be_names", dG 17 "must_be_seen", dG 18 "is_answer", dG 19 "are_wants_of_all", dG 20 "is_explained", dG 21 "most_wanted", dG 23 "_law_pool", dG 24 "_law_take", dG 25 "_law_one", dG 26 "_law_told_names", dG 27 "_law_parts", dG 28 "_law_answers", dG 29 "_law_all_wants", dG 30 "_law_right", dG 31 "_law_bent", dG 32 "law", dM "NoSkill" 2 0 "__init__" "NoSkill.__init__", dM "NoSeen" 3 0 "__init__" "NoSeen.__init__"]
def fa : List He.Fa := [.glo "is_word", .glo "is_one_of", .glo "is_ordered", .glo "are_unlike", .glo "is_seen", .glo "explains", .glo "greatest_wants", .glo "must_be_names", .glo "must_be_seen", .glo "is_answer", .glo "are_wants_of_all", .glo "is_explained", .glo "most_wanted", .glo "_law_pool", .glo "_law_take", .glo "_law_one", .glo "_law_told_names", .glo "_law_parts", .glo "_law_answers", .glo "_law_all_wants", .glo "_law_right", .glo "_law_bent", .glo "law", .free "len", .free "isinstance", .free "int", .free "str", .free "bool", .free "list", .free "tuple", .free "dict", .free "set", .free "sorted", .free "all", .free "any", .free "sum", .free "min", .free "max", .free "range", .free "repr", .free "iter", .int "LONGEST_WORD" 8, .int "MOST_SKILLS" 12, .str "SMALL_LETTERS" "abcdefghijklmnopqrstuvwxyz", .glo "NoSkill", .noat "NoSkill" "skill", .glo "NoSeen", .noat "NoSeen" "seen", .exm "NoSkill" "NoSkill" true, .exm "NoSkill" "NoSeen" false, .exm "NoSeen" "NoSkill" false, .exm "NoSeen" "NoSeen" true]
structure All (K : PySem.W.Frag) (mg : Str → Option Value) : Prop where
  s : He.SaysD fa fn K
  hp : ∃ h : Heap, K.In h ∧ h.Ns mainGlobals mg
section
variable {K : PySem.W.Frag} {mg : Str → Option Value}
theorem All.g_is_word (Z : All K mg) : mg "is_word" = some (.ref (He.ga K "is_word")) := let ⟨_, X, G⟩ := Z.hp; He.glo_ok X G (Z.s.fact 0 (f := .glo "is_word") rfl)
theorem All.g_is_one_of (Z : All K mg) : mg "is_one_of" = some (.ref (He.ga K "is_one_of")) := let ⟨_, X, G⟩ := Z.hp; He.glo_ok X G (Z.s.fact 1 (f := .glo "is_one_of") rfl)
theorem All.g_is_ordered (Z : All K mg) : mg "is_ordered" = some (.ref (He.ga K "is_ordered")) := let ⟨_, X, G⟩ := Z.hp; He.glo_ok X G (Z.s.fact 2 (f := .glo "is_ordered") rfl)
theorem All.g_are_unlike (Z : All K mg) : mg "are_unlike" = some (.ref (He.ga K "are_unlike")) := let ⟨_, X, G⟩ := Z.hp; He.glo_ok X G (Z.s.fact 3 (f := .glo "are_unlike") rfl)
theorem All.g_is_seen (Z : All K mg) : mg "is_seen" = some (.ref (He.ga K "is_seen")) := let ⟨_, X, G⟩ := Z.hp; He.glo_ok X G (Z.s.fact 4 (f := .glo "is_seen") rfl)
theorem All.g_explains (Z : All K mg) : mg "explains" = some (.ref (He.ga K "explains")) := let ⟨_, X, G⟩ := Z.hp; He.glo_ok X G (Z.s.fact 5 (f := .glo "explains") rfl)
theorem All.g_greatest_wants (Z : All K mg) : mg "greatest_wants" = some (.ref (He.ga K "greatest_wants")) := let ⟨_, X, G⟩ := Z.hp; He.glo_ok X G (Z.s.fact 6 (f := .glo "greatest_wants") rfl)
theorem All.g_must_be_names (Z : All K mg) : mg "must_be_names" = some (.ref (He.ga K "must_be_names")) := let ⟨_, X, G⟩ := Z.hp; He.glo_ok X G (Z.s.fact 7 (f := .glo "must_be_names") rfl)
theorem All.g_must_be_seen (Z : All K mg) : mg "must_be_seen" = some (.ref (He.ga K "must_be_seen")) := let ⟨_, X, G⟩ := Z.hp; He.glo_ok X G (Z.s.fact 8 (f := .glo "must_be_seen") rfl)
theorem All.g_is_answer (Z : All K mg) : mg "is_answer" = some (.ref (He.ga K "is_answer")) := let ⟨_, X, G⟩ := Z.hp; He.glo_ok X G (Z.s.fact 9 (f := .glo "is_answer") rfl)
theorem All.g_are_wants_of_all (Z : All K mg) : mg "are_wants_of_all" = some (.ref (He.ga K "are_wants_of_all")) := let ⟨_, X, G⟩ := Z.hp; He.glo_ok X G (Z.s.fact 10 (f := .glo "are_wants_of_all") rfl)
theorem All.g_is_explained (Z : All K mg) : mg "is_explained" = some (.ref (He.ga K "is_explained")) := let ⟨_, X, G⟩ := Z.hp; He.glo_ok X G (Z.s.fact 11 (f := .glo "is_explained") rfl)
theorem All.g_most_wanted (Z : All K mg) : mg "most_wanted" = some (.ref (He.ga K "most_wanted")) := let ⟨_, X, G⟩ := Z.hp; He.glo_ok X G (Z.s.fact 12 (f := .glo "most_wanted") rfl)
theorem All.g_law_pool (Z : All K mg) : mg "_law_pool" = some (.ref (He.ga K "_law_pool")) := let ⟨_, X, G⟩ := Z.hp; He.glo_ok X G (Z.s.fact 13 (f := .glo "_law_pool") rfl)
theorem All.g_law_take (Z : All K mg) : mg "_law_take" = some (.ref (He.ga K "_law_take")) := let ⟨_, X, G⟩ := Z.hp; He.glo_ok X G (Z.s.fact 14 (f := .glo "_law_take") rfl)
theorem All.g_law_one (Z : All K mg) : mg "_law_one" = some (.ref (He.ga K "_law_one")) := let ⟨_, X, G⟩ := Z.hp; He.glo_ok X G (Z.s.fact 15 (f := .glo "_law_one") rfl)
theorem All.g_law_told_names (Z : All K mg) : mg "_law_told_names" = some (.ref (He.ga K "_law_told_names")) := let ⟨_, X, G⟩ := Z.hp; He.glo_ok X G (Z.s.fact 16 (f := .glo "_law_told_names") rfl)
theorem All.g_law_parts (Z : All K mg) : mg "_law_parts" = some (.ref (He.ga K "_law_parts")) := let ⟨_, X, G⟩ := Z.hp; He.glo_ok X G (Z.s.fact 17 (f := .glo "_law_parts") rfl)
theorem All.g_law_answers (Z : All K mg) : mg "_law_answers" = some (.ref (He.ga K "_law_answers")) := let ⟨_, X, G⟩ := Z.hp; He.glo_ok X G (Z.s.fact 18 (f := .glo "_law_answers") rfl)
theorem All.g_law_all_wants (Z : All K mg) : mg "_law_all_wants" = some (.ref (He.ga K "_law_all_wants")) := let ⟨_, X, G⟩ := Z.hp; He.glo_ok X G (Z.s.fact 19 (f := .glo "_law_all_wants") rfl)
theorem All.g_law_right (Z : All K mg) : mg "_law_right" = some (.ref (He.ga K "_law_right")) := let ⟨_, X, G⟩ := Z.hp; He.glo_ok X G (Z.s.fact 20 (f := .glo "_law_right") rfl)
theorem All.g_law_bent (Z : All K mg) : mg "_law_bent" = some (.ref (He.ga K "_law_bent")) := let ⟨_, X, G⟩ := Z.hp; He.glo_ok X G (Z.s.fact 21 (f := .glo "_law_bent") rfl)
theorem All.g_law (Z : All K mg) : mg "law" = some (.ref (He.ga K "law")) := let ⟨_, X, G⟩ := Z.hp; He.glo_ok X G (Z.s.fact 22 (f := .glo "law") rfl)
theorem All.b_len (Z : All K mg) : mg "len" = none := let ⟨_, X, G⟩ := Z.hp; He.free_ok X G (Z.s.fact 23 (f := .free "len") rfl)
theorem All.b_isinstance (Z : All K mg) : mg "isinstance" = none := let ⟨_, X, G⟩ := Z.hp; He.free_ok X G (Z.s.fact 24 (f := .free "isinstance") rfl)
theorem All.b_int (Z : All K mg) : mg "int" = none := let ⟨_, X, G⟩ := Z.hp; He.free_ok X G (Z.s.fact 25 (f := .free "int") rfl)
theorem All.b_str (Z : All K mg) : mg "str" = none := let ⟨_, X, G⟩ := Z.hp; He.free_ok X G (Z.s.fact 26 (f := .free "str") rfl)
theorem All.b_bool (Z : All K mg) : mg "bool" = none := let ⟨_, X, G⟩ := Z.hp; He.free_ok X G (Z.s.fact 27 (f := .free "bool") rfl)
theorem All.b_list (Z : All K mg) : mg "list" = none := let ⟨_, X, G⟩ := Z.hp; He.free_ok X G (Z.s.fact 28 (f := .free "list") rfl)
theorem All.b_tuple (Z : All K mg) : mg "tuple" = none := let ⟨_, X, G⟩ := Z.hp; He.free_ok X G (Z.s.fact 29 (f := .free "tuple") rfl)
theorem All.b_dict (Z : All K mg) : mg "dict" = none := let ⟨_, X, G⟩ := Z.hp; He.free_ok X G (Z.s.fact 30 (f := .free "dict") rfl)
theorem All.b_set (Z : All K mg) : mg "set" = none := let ⟨_, X, G⟩ := Z.hp; He.free_ok X G (Z.s.fact 31 (f := .free "set") rfl)
theorem All.b_sorted (Z : All K mg) : mg "sorted" = none := let ⟨_, X, G⟩ := Z.hp; He.free_ok X G (Z.s.fact 32 (f := .free "sorted") rfl)
theorem All.b_all (Z : All K mg) : mg "all" = none := let ⟨_, X, G⟩ := Z.hp; He.free_ok X G (Z.s.fact 33 (f := .free "all") rfl)
theorem All.b_any (Z : All K mg) : mg "any" = none := let ⟨_, X, G⟩ := Z.hp; He.free_ok X G (Z.s.fact 34 (f := .free "any") rfl)
theorem All.b_sum (Z : All K mg) : mg "sum" = none := let ⟨_, X, G⟩ := Z.hp; He.free_ok X G (Z.s.fact 35 (f := .free "sum") rfl)
theorem All.b_min (Z : All K mg) : mg "min" = none := let ⟨_, X, G⟩ := Z.hp; He.free_ok X G (Z.s.fact 36 (f := .free "min") rfl)
theorem All.b_max (Z : All K mg) : mg "max" = none := let ⟨_, X, G⟩ := Z.hp; He.free_ok X G (Z.s.fact 37 (f := .free "max") rfl)
theorem All.b_range (Z : All K mg) : mg "range" = none := let ⟨_, X, G⟩ := Z.hp; He.free_ok X G (Z.s.fact 38 (f := .free "range") rfl)
theorem All.b_repr (Z : All K mg) : mg "repr" = none := let ⟨_, X, G⟩ := Z.hp; He.free_ok X G (Z.s.fact 39 (f := .free "repr") rfl)
theorem All.b_iter (Z : All K mg) : mg "iter" = none := let ⟨_, X, G⟩ := Z.hp; He.free_ok X G (Z.s.fact 40 (f := .free "iter") rfl)
theorem All.LONGEST_WORD (Z : All K mg) : ∃ t, mg "LONGEST_WORD" = some (.int 8 t) := let ⟨_, X, G⟩ := Z.hp; He.int_ok X G (Z.s.fact 41 (f := .int "LONGEST_WORD" 8) rfl)
theorem All.MOST_SKILLS (Z : All K mg) : ∃ t, mg "MOST_SKILLS" = some (.int 12 t) := let ⟨_, X, G⟩ := Z.hp; He.int_ok X G (Z.s.fact 42 (f := .int "MOST_SKILLS" 12) rfl)
theorem All.SMALL_LETTERS (Z : All K mg) : ∃ t, mg "SMALL_LETTERS" = some (.str "abcdefghijklmnopqrstuvwxyz" t) := let ⟨_, X, G⟩ := Z.hp; He.str_ok X G (Z.s.fact 43 (f := .str "SMALL_LETTERS" "abcdefghijklmnopqrstuvwxyz") rfl)
theorem All.f_is_word (Z : All K mg) : ∃ fd, FunD K "is_word" "is_word" (defArgs s_is_word) (defBody s_is_word) (defScope s_is_word) [] [] (He.ga K "is_word") fd := Z.s.def_ 0 (d := dG 7 "is_word") rfl
theorem All.f_is_one_of (Z : All K mg) : ∃ fd, FunD K "is_one_of" "is_one_of" (defArgs s_is_one_of) (defBody s_is_one_of) (defScope s_is_one_of) [] [] (He.ga K "is_one_of") fd := Z.s.def_ 1 (d := dG 8 "is_one_of") rfl
theorem All.f_is_ordered (Z : All K mg) : ∃ fd, FunD K "is_ordered" "is_ordered" (defArgs s_is_ordered) (defBody s_is_ordered) (defScope s_is_ordered) [] [] (He.ga K "is_ordered") fd := Z.s.def_ 2 (d := dG 9 "is_ordered") rfl
theorem All.f_are_unlike (Z : All K mg) : ∃ fd, FunD K "are_unlike" "are_unlike" (defArgs s_are_unlike) (defBody s_are_unlike) (defScope s_are_unlike) [] [] (He.ga K "are_unlike") fd := Z.s.def_ 3 (d := dG 10 "are_unlike") rfl
theorem All.f_is_seen (Z : All K mg) : ∃ fd, FunD K "is_seen" "is_seen" (defArgs s_is_seen) (defBody s_is_seen) (defScope s_is_seen) [] [] (He.ga K "is_seen") fd := Z.s.def_ 4 (d := dG 13 "is_seen") rfl
theorem All.f_explains (Z : All K mg) : ∃ fd, FunD K "explains" "explains" (defArgs s_explains) (defBody s_explains) (defScope s_explains) [] [] (He.ga K "explains") fd := Z.s.def_ 5 (d := dG 14 "explains") rfl
theorem All.f_greatest_wants (Z : All K mg) : ∃ fd, FunD K "greatest_wants" "greatest_wants" (defArgs s_greatest_wants) (defBody s_greatest_wants) (defScope s_greatest_wants) [] [] (He.ga K "greatest_wants") fd := Z.s.def_ 6 (d := dG 15 "greatest_wants") rfl
theorem All.f_must_be_names (Z : All K mg) : ∃ fd, FunD K "must_be_names" "must_be_names" (defArgs s_must_be_names) (defBody s_must_be_names) (defScope s_must_be_names) [] [] (He.ga K "must_be_names") fd := Z.s.def_ 7 (d := dG 16 "must_be_names") rfl
theorem All.f_must_be_seen (Z : All K mg) : ∃ fd, FunD K "must_be_seen" "must_be_seen" (defArgs s_must_be_seen) (defBody s_must_be_seen) (defScope s_must_be_seen) [] [] (He.ga K "must_be_seen") fd := Z.s.def_ 8 (d := dG 17 "must_be_seen") rfl
theorem All.f_is_answer (Z : All K mg) : ∃ fd, FunD K "is_answer" "is_answer" (defArgs s_is_answer) (defBody s_is_answer) (defScope s_is_answer) [] [] (He.ga K "is_answer") fd := Z.s.def_ 9 (d := dG 18 "is_answer") rfl
theorem All.f_are_wants_of_all (Z : All K mg) : ∃ fd, FunD K "are_wants_of_all" "are_wants_of_all" (defArgs s_are_wants_of_all) (defBody s_are_wants_of_all) (defScope s_are_wants_of_all) [] [] (He.ga K "are_wants_of_all") fd := Z.s.def_ 10 (d := dG 19 "are_wants_of_all") rfl
theorem All.f_is_explained (Z : All K mg) : ∃ fd, FunD K "is_explained" "is_explained" (defArgs s_is_explained) (defBody s_is_explained) (defScope s_is_explained) [] [] (He.ga K "is_explained") fd := Z.s.def_ 11 (d := dG 20 "is_explained") rfl
theorem All.f_most_wanted (Z : All K mg) : ∃ fd, FunD K "most_wanted" "most_wanted" (defArgs s_most_wanted) (defBody s_most_wanted) (defScope s_most_wanted) [] [] (He.ga K "most_wanted") fd := Z.s.def_ 12 (d := dG 21 "most_wanted") rfl
theorem All.f_law_pool (Z : All K mg) : ∃ fd, FunD K "_law_pool" "_law_pool" (defArgs s_law_pool) (defBody s_law_pool) (defScope s_law_pool) [] [] (He.ga K "_law_pool") fd := Z.s.def_ 13 (d := dG 23 "_law_pool") rfl
theorem All.f_law_take (Z : All K mg) : ∃ fd, FunD K "_law_take" "_law_take" (defArgs s_law_take) (defBody s_law_take) (defScope s_law_take) [] [] (He.ga K "_law_take") fd := Z.s.def_ 14 (d := dG 24 "_law_take") rfl
theorem All.f_law_one (Z : All K mg) : ∃ fd, FunD K "_law_one" "_law_one" (defArgs s_law_one) (defBody s_law_one) (defScope s_law_one) [] [] (He.ga K "_law_one") fd := Z.s.def_ 15 (d := dG 25 "_law_one") rfl
theorem All.f_law_told_names (Z : All K mg) : ∃ fd, FunD K "_law_told_names" "_law_told_names" (defArgs s_law_told_names) (defBody s_law_told_names) (defScope s_law_told_names) [] [] (He.ga K "_law_told_names") fd := Z.s.def_ 16 (d := dG 26 "_law_told_names") rfl
theorem All.f_law_parts (Z : All K mg) : ∃ fd, FunD K "_law_parts" "_law_parts" (defArgs s_law_parts) (defBody s_law_parts) (defScope s_law_parts) [] [] (He.ga K "_law_parts") fd := Z.s.def_ 17 (d := dG 27 "_law_parts") rfl
theorem All.f_law_answers (Z : All K mg) : ∃ fd, FunD K "_law_answers" "_law_answers" (defArgs s_law_answers) (defBody s_law_answers) (defScope s_law_answers) [] [] (He.ga K "_law_answers") fd := Z.s.def_ 18 (d := dG 28 "_law_answers") rfl
theorem All.f_law_all_wants (Z : All K mg) : ∃ fd, FunD K "_law_all_wants" "_law_all_wants" (defArgs s_law_all_wants) (defBody s_law_all_wants) (defScope s_law_all_wants) [] [] (He.ga K "_law_all_wants") fd := Z.s.def_ 19 (d := dG 29 "_law_all_wants") rfl
theorem All.f_law_right (Z : All K mg) : ∃ fd, FunD K "_law_right" "_law_right" (defArgs s_law_right) (defBody s_law_right) (defScope s_law_right) [] [] (He.ga K "_law_right") fd := Z.s.def_ 20 (d := dG 30 "_law_right") rfl
theorem All.f_law_bent (Z : All K mg) : ∃ fd, FunD K "_law_bent" "_law_bent" (defArgs s_law_bent) (defBody s_law_bent) (defScope s_law_bent) [] [] (He.ga K "_law_bent") fd := Z.s.def_ 21 (d := dG 31 "_law_bent") rfl
theorem All.f_law (Z : All K mg) : ∃ fd, FunD K "law" "law" (defArgs s_law) (defBody s_law) (defScope s_law) [] [] (He.ga K "law") fd := Z.s.def_ 22 (d := dG 32 "law") rfl
theorem All.f_NoSkill_init (Z : All K mg) : ∃ fd, FunD K "__init__" "NoSkill.__init__" (defArgs s_NoSkill_init) (defBody s_NoSkill_init) (defScope s_NoSkill_init) [] [] (He.fAd K ("NoSkill", some "__init__")) fd := Z.s.def_ 23 (d := dM "NoSkill" 2 0 "__init__" "NoSkill.__init__") rfl
theorem All.g_NoSkill (Z : All K mg) : mg "NoSkill" = some (.ref (He.ga K "NoSkill")) := let ⟨_, X, G⟩ := Z.hp; He.glo_ok X G (Z.s.fact 44 (f := .glo "NoSkill") rfl)
theorem All.n_NoSkill (Z : All K mg) : NoAttr K (He.ga K "NoSkill") "skill" := He.noat_ok (Z.s.fact 45 (f := .noat "NoSkill" "skill") rfl)
theorem All.x_NoSkill_NoSkill (Z : All K mg) : PySem.W.exmOne K (.ref (He.ga K "NoSkill")) (.ref (He.ga K "NoSkill")) = some true := He.exm_ok (Z.s.fact 48 (f := .exm "NoSkill" "NoSkill" true) rfl)
theorem All.x_NoSkill_NoSeen (Z : All K mg) : PySem.W.exmOne K (.ref (He.ga K "NoSkill")) (.ref (He.ga K "NoSeen")) = some false := He.exm_ok (Z.s.fact 49 (f := .exm "NoSkill" "NoSeen" false) rfl)
theorem All.f_NoSeen_init (Z : All K mg) : ∃ fd, FunD K "__init__" "NoSeen.__init__" (defArgs s_NoSeen_init) (defBody s_NoSeen_init) (defScope s_NoSeen_init) [] [] (He.fAd K ("NoSeen", some "__init__")) fd := Z.s.def_ 24 (d := dM "NoSeen" 3 0 "__init__" "NoSeen.__init__") rfl
theorem All.g_NoSeen (Z : All K mg) : mg "NoSeen" = some (.ref (He.ga K "NoSeen")) := let ⟨_, X, G⟩ := Z.hp; He.glo_ok X G (Z.s.fact 46 (f := .glo "NoSeen") rfl)
theorem All.n_NoSeen (Z : All K mg) : NoAttr K (He.ga K "NoSeen") "seen" := He.noat_ok (Z.s.fact 47 (f := .noat "NoSeen" "seen") rfl)
theorem All.x_NoSeen_NoSkill (Z : All K mg) : PySem.W.exmOne K (.ref (He.ga K "NoSeen")) (.ref (He.ga K "NoSkill")) = some false := He.exm_ok (Z.s.fact 50 (f := .exm "NoSeen" "NoSkill" false) rfl)
theorem All.x_NoSeen_NoSeen (Z : All K mg) : PySem.W.exmOne K (.ref (He.ga K "NoSeen")) (.ref (He.ga K "NoSeen")) = some true := He.exm_ok (Z.s.fact 51 (f := .exm "NoSeen" "NoSeen" true) rfl)
end
end Rt
end
section
set_option Elab.async false
set_option linter.all false
set_option maxRecDepth 100000
set_option maxHeartbeats 4000000
/-! small data: what == tells of lists and tuples of them -/
namespace Rt
open PySem PySem.Spec PyProof.Rows L2
def Sm (d : PyData) : Prop := PyData.canLay0 d = true ∧ PyData.depth d ≤ 20
def Dsm (K : PySem.W.Frag) (H : Hp) (x : V) : Prop := ∃ d, Dp K H x d ∧ Sm d
theorem sm_all : ∀ {ds : List PyData}, (∀ d ∈ ds, Sm d) → PyData.canLayAll0 ds = true ∧ PyData.depthAll ds ≤ 20
  | [], _ => ⟨by simp [PyData.canLayAll0], by simp [PyData.depthAll]⟩
  | d :: ds, h => by
    obtain ⟨h1, h2⟩ := sm_all (ds := ds) fun y hy => h y (List.mem_cons_of_mem _ hy)
    obtain ⟨h3, h4⟩ := h d List.mem_cons_self
    refine ⟨by simp [PyData.canLayAll0, h3, h1], ?_⟩
    simp only [PyData.depthAll]
    omega
theorem shaped_of {d : PyData} (h1 : PyData.canLay0 d = true) (h2 : PyData.depth d ≤ 64) : SeqAt.shaped d = true := by
  show (PyData.canLay0 d && decide (PyData.depth d ≤ 64)) = true
  rw [h1, decide_eq_true h2]
  rfl
theorem Sm.shaped {d : PyData} (h : Sm d) : SeqAt.shaped d = true := shaped_of h.1 (by have := h.2; omega)
theorem shaped_lst {ds : List PyData} (h : ∀ d ∈ ds, Sm d) : SeqAt.shaped (.list ds) = true := by
  obtain ⟨h1, h2⟩ := sm_all h
  refine shaped_of (by simp only [PyData.canLay0]; exact h1) ?_
  simp only [PyData.depth]
  omega
theorem shaped_tup {ds : List PyData} (h : ∀ d ∈ ds, Sm d) : SeqAt.shaped (.tuple ds) = true := by
  obtain ⟨h1, h2⟩ := sm_all h
  refine shaped_of (by simp only [PyData.canLay0]; exact h1) ?_
  simp only [PyData.depth]
  omega
theorem dpAll_sm {K : PySem.W.Frag} {H : Hp} : ∀ {xs : List V}, (∀ x ∈ xs, Dsm K H x) → ∃ ds, DpAll K H xs ds ∧ ds.length = xs.length ∧ ∀ d ∈ ds, Sm d
  | [], _ => ⟨[], .nil, rfl, fun _ h => absurd h (by simp)⟩
  | x :: xs, h => by
    obtain ⟨ds, h1, h2, h3⟩ := dpAll_sm (xs := xs) fun y hy => h y (List.mem_cons_of_mem _ hy)
    obtain ⟨d, h4, h5⟩ := h x List.mem_cons_self
    refine ⟨d :: ds, .cons h4 h1, by rw [List.length_cons, List.length_cons, h2], fun e he => ?_⟩
    rcases List.mem_cons.mp he with rfl | he
    · exact h5
    · exact h3 e he
theorem eqv_nilL : ∀ ds : List PyData, PyData.eqv (.list ds) (.list []) = ds.isEmpty
  | [] => by simp [PyData.eqv, PyData.eqvAll]
  | d :: ds => by simp [PyData.eqv, PyData.eqvAll]
mutual
theorem eqv_rfl : ∀ d : PyData, PyData.canLay0 d = true → PyData.eqv d d = true
  | .none, _ => by simp [PyData.eqv]
  | .bool b, _ => by simp [PyData.eqv]
  | .int i, _ => by simp [PyData.eqv]
  | .str x, _ => by simp [PyData.eqv]
  | .list xs, h => by
    simp only [PyData.eqv]
    exact eqv_rflAll xs (by simpa only [PyData.canLay0] using h)
  | .tuple xs, h => by
    simp only [PyData.eqv]
    exact eqv_rflAll xs (by simpa only [PyData.canLay0] using h)
  | .dict _, h => by simp [PyData.canLay0] at h
theorem eqv_rflAll : ∀ ds : List PyData, PyData.canLayAll0 ds = true → PyData.eqvAll ds ds = true
  | [], _ => by simp [PyData.eqvAll]
  | d :: ds, h => by
    have h' : PyData.canLay0 d = true ∧ PyData.canLayAll0 ds = true := by simpa [PyData.canLayAll0] using h
    simp [PyData.eqvAll, eqv_rfl d h'.1, eqv_rflAll ds h'.2]
end
theorem sm_str {z : Str} (h : PyData.strOk z = true) : Sm (.str z) := ⟨by simp [PyData.canLay0, h], by simp [PyData.depth]⟩
theorem sm_int (i : Int) : Sm (.int i) := ⟨by simp [PyData.canLay0], by simp [PyData.depth]⟩
def rEqE (K : PySem.W.Frag) : R2 := fun x y H Q => ∃ a xs b, x = .ref a ∧ y = .ref b ∧ SqL K H a xs ∧ SqL K H b [] ∧ (∀ x ∈ xs, Dsm K H x) ∧ Q (.bl xs.isEmpty) H
def rNeE (K : PySem.W.Frag) : R2 := fun x y H Q => ∃ a xs b, x = .ref a ∧ y = .ref b ∧ SqL K H a xs ∧ SqL K H b [] ∧ (∀ x ∈ xs, Dsm K H x) ∧ Q (.bl (!xs.isEmpty)) H
theorem emp_same {α β : Type} {xs : List α} {ds : List β} (h : ds.length = xs.length) : ds.isEmpty = xs.isEmpty := by
  cases ds <;> cases xs <;> simp_all
section
variable {X : Cx}
theorem op_eqE (hu : X.A.units + 64 < cLine) : OpR X (compareOp .Eq) (rEqE X.K) := by
  intro pins s σ H x y v u Q I rx ry h
  obtain ⟨a, xs, b, rfl, rfl, ha, hb, sm, q⟩ := h
  obtain ⟨ds, d1, d2, d3⟩ := dpAll_sm sm
  refine op_eqD hu pins s σ H _ _ v u Q I rx ry ⟨.list ds, .list [], .lst ha d1, .lst hb .nil, shaped_lst d3, by rfl, ?_⟩
  rw [eqv_nilL, emp_same d2]
  exact q
theorem op_neE (hu : X.A.units + 64 < cLine) : OpR X (compareOp .NotEq) (rNeE X.K) := by
  intro pins s σ H x y v u Q I rx ry h
  obtain ⟨a, xs, b, rfl, rfl, ha, hb, sm, q⟩ := h
  obtain ⟨ds, d1, d2, d3⟩ := dpAll_sm sm
  refine op_neD hu pins s σ H _ _ v u Q I rx ry ⟨.list ds, .list [], .lst ha d1, .lst hb .nil, shaped_lst d3, by rfl, ?_⟩
  rw [eqv_nilL, emp_same d2]
  exact q
end
end Rt
end
section
set_option Elab.async false
set_option linter.all false
set_option maxRecDepth 100000
set_option maxHeartbeats 8000000
/-! what every law's proof shares, apart from any row -/
namespace Rt
open PySem PySem.Spec PyProof.Rows L2
theorem Ts.same {K : PySem.W.Frag} {H H' : Hp} {x : V} {T : String} (h : Ts K H x T) (e : Same H H') : Ts K H' x T := by
  cases h with
  | non => exact .non
  | bl b => exact .bl b
  | int i => exact .int i
  | str x => exact .str x
  | tup h => exact .tup (sqT_same e h)
  | lst h => exact .lst (e _ _ h)
  | dct h => exact .dct (e _ _ h)
theorem lenV_sq {K : PySem.W.Frag} {H : Hp} {a : Addr} {xs : List V} (h : Sq K H a xs) : LenV K (.ref a) H xs.length := by
  rcases h with h | h
  · exact .inl ⟨xs, h, rfl⟩
  · exact .inr ⟨xs, h, rfl⟩
def strOf : V → Option Str
  | .str z => some z
  | _ => none
/-- a pool of two numbers -/
def PoolAt (H : Hp) (p : Addr) : Prop := ∃ x y : Int, H p = some (.lst [.int x, .int y]) ∧ 0 ≤ x ∧ 0 ≤ y ∧ y < 2147483647
/-- the pool has turned, all else stands -/
structure Aft (p : Addr) (H H' : Hp) : Prop where
  pool : PoolAt H' p
  keep : ∀ b o, b ≠ p → H b = some o → H' b = some o
theorem Aft.trans {p : Addr} {H H1 H2 : Hp} (a : Aft p H H1) (b : Aft p H1 H2) : Aft p H H2 := ⟨b.pool, fun c o n h => b.keep c o n (a.keep c o n h)⟩
theorem Aft.refl {p : Addr} {H : Hp} (h : PoolAt H p) : Aft p H H := ⟨h, fun _ _ _ h => h⟩
theorem Aft.new {p q : Addr} {H H' : Hp} {o : HO} (a : Aft p H H') (n : H' q = none) : Aft p H (upd H' q o) := by
  obtain ⟨x, y, h, r⟩ := a.pool
  refine ⟨⟨x, y, Same.new n _ _ h, r⟩, fun b u nb hb => Same.new n _ _ (a.keep b u nb hb)⟩
theorem Aft.same {p : Addr} {H H1 H2 : Hp} (a : Aft p H H1) (s : Same H1 H2) : Aft p H H2 := by
  obtain ⟨x, y, h, r⟩ := a.pool
  exact ⟨⟨x, y, s _ _ h, r⟩, fun b u nb hb => s _ _ (a.keep b u nb hb)⟩
theorem Aft.sqL {K : PySem.W.Frag} {p b : Addr} {H H' : Hp} {xs : List V} (a : Aft p H H') (h : SqL K H b xs) (n : b ≠ p) : SqL K H' b xs := by
  rcases h with (h | ⟨o, h⟩) | h
  · exact .inl (.inl (a.keep _ _ n h))
  · exact .inl (.inr ⟨o, a.keep _ _ n h⟩)
  · exact .inr h
theorem Aft.sqT {K : PySem.W.Frag} {p b : Addr} {H H' : Hp} {xs : List V} (a : Aft p H H') (h : SqT K H b xs) (n : b ≠ p) : SqT K H' b xs := by
  rcases h with (h | ⟨o, h⟩) | h
  · exact .inl (.inl (a.keep _ _ n h))
  · exact .inl (.inr ⟨o, a.keep _ _ n h⟩)
  · exact .inr h
theorem PoolAt.same {p : Addr} {H H' : Hp} (h : PoolAt H p) (s : Same H H') : PoolAt H' p := let ⟨x, y, e, r⟩ := h; ⟨x, y, s _ _ e, r⟩
theorem PoolAt.ne {p q : Addr} {H : Hp} (h : PoolAt H p) (n : H q = none) : q ≠ p := fun e => by
  obtain ⟨x, y, hp, _⟩ := h
  rw [e, hp] at n
  cases n
theorem atI_of {xs : List V} {r : Int} (h0 : 0 ≤ r) (h1 : r < xs.length) : ∃ i x, xs[i]? = some x ∧ atI xs r = some x ∧ r = (i : Nat) := by
  have l : r.toNat < xs.length := by omega
  have e : r = (r.toNat : Int) := by omega
  exact ⟨r.toNat, xs[r.toNat], List.getElem?_eq_getElem l, at_of e (List.getElem?_eq_getElem l), e⟩
theorem six_of {r : Int} {n : Nat} (h0 : 0 ≤ r) (h1 : r < n) : seqIndex? r n = some r.toNat := by
  have h2 : ¬ r < 0 := by omega
  unfold seqIndex?
  simp [h2, h0, h1]
theorem eqv_nil (zs : List Str) : PyData.eqv (.list (zs.map PyData.str)) (.list []) = zs.isEmpty := by
  cases zs with
  | nil => simp [PyData.eqv, PyData.eqvAll]
  | cons z zs => simp [PyData.eqv, PyData.eqvAll]
def Oks (zs : List Str) : Prop := ∀ z ∈ zs, PyData.strOk z = true
theorem lay_strs : ∀ {zs : List Str}, Oks zs → PyData.canLayAll0 (zs.map PyData.str) = true ∧ PyData.depthAll (zs.map PyData.str) ≤ 1
  | [], _ => ⟨by simp [PyData.canLayAll0], by simp [PyData.depthAll]⟩
  | z :: zs, h => by
    obtain ⟨h1, h2⟩ := lay_strs (zs := zs) fun y hy => h y (List.mem_cons_of_mem _ hy)
    have h3 := h z List.mem_cons_self
    refine ⟨by simp [PyData.canLayAll0, PyData.canLay0, h3, h1], ?_⟩
    simp only [List.map_cons, PyData.depthAll, PyData.depth]
    omega
theorem shaped_strs {zs : List Str} (h : Oks zs) : SeqAt.shaped (.list (zs.map PyData.str)) = true := by
  obtain ⟨h1, h2⟩ := lay_strs h
  show (PyData.canLay0 (.list (zs.map PyData.str)) && decide (PyData.depth (.list (zs.map PyData.str)) ≤ 64)) = true
  rw [Bool.and_eq_true]
  exact ⟨by simp only [PyData.canLay0]; exact h1, decide_eq_true (by simp only [PyData.depth]; omega)⟩
theorem dpAll_strs {K : PySem.W.Frag} {H : Hp} : ∀ zs : List Str, DpAll K H (zs.map V.str) (zs.map PyData.str)
  | [] => .nil
  | z :: zs => .cons (.str z) (dpAll_strs zs)
theorem dp_strs {K : PySem.W.Frag} {H : Hp} {a : Addr} {zs : List Str} (h : SqL K H a (zs.map V.str)) : Dp K H (.ref a) (.list (zs.map PyData.str)) := .lst h (dpAll_strs zs)
def Tk (H H' : Hp) : Prop := ∀ b xs, H b = some (.tup xs) → H' b = some (.tup xs)
theorem Tk.refl (H : Hp) : Tk H H := fun _ _ h => h
theorem Tk.trans {H H1 H2 : Hp} (a : Tk H H1) (b : Tk H1 H2) : Tk H H2 := fun c xs h => b c xs (a c xs h)
theorem Tk.of {H H' : Hp} (s : Same H H') : Tk H H' := fun b xs h => s b _ h
theorem Tk.new {H : Hp} {q : Addr} {o : HO} (n : H q = none) : Tk H (upd H q o) := .of (Same.new n)
theorem Tk.lst {H : Hp} {q : Addr} {xs : List V} {o : HO} (h : H q = some (.lst xs)) : Tk H (upd H q o) := fun b ys hb => by
  rw [upd_ne (ne_of hb h (by intro z; cases z))]
  exact hb
theorem Aft.tk {p : Addr} {H H' : Hp} (a : Aft p H H') (h : PoolAt H p) : Tk H H' := fun b xs hb => by
  obtain ⟨x, y, hp, _⟩ := h
  exact a.keep b _ (ne_of hb hp (by intro z; cases z)) hb
theorem Aft.free {p b : Addr} {H H' : Hp} (a : Aft p H H') (h : H' b = none) : b = p ∨ H b = none := by
  by_cases e : b = p
  · exact .inl e
  · refine .inr ?_
    cases q : H b with
    | none => rfl
    | some o =>
      rw [a.keep b o e q] at h
      cases h
theorem Aft.free' {p b : Addr} {H H' : Hp} (a : Aft p H H') (h : H' b = none) : H b = none := by
  rcases a.free h with e | e
  · obtain ⟨x, y, q, _⟩ := a.pool
    rw [e, q] at h
    cases h
  · exact e
theorem Aft.put {p q : Addr} {H H' : Hp} {o : HO} (a : Aft p H H') (f : H q = none) (n : q ≠ p) : Aft p H (upd H' q o) := by
  obtain ⟨x, y, h, r⟩ := a.pool
  refine ⟨⟨x, y, by rw [upd_ne n.symm]; exact h, r⟩, fun b u nb hb => ?_⟩
  rw [upd_ne (ne_of_none hb f)]
  exact a.keep b u nb hb
def Rw (H : Hp) (x : V) (vs : List V) : Prop := ∃ p, x = .ref p ∧ H p = some (.tup vs)
abbrev Rws (H : Hp) (xs : List V) (rows : List (List V)) : Prop := Paired (Rw H) xs rows
theorem Rw.tk {H H' : Hp} {x : V} {vs : List V} (h : Rw H x vs) (k : Tk H H') : Rw H' x vs := let ⟨p, e, a⟩ := h; ⟨p, e, k p _ a⟩
theorem Rws.tk {H H' : Hp} (k : Tk H H') : ∀ {xs : List V} {rows : List (List V)}, Rws H xs rows → Rws H' xs rows
  | _, _, .nil => .nil
  | _, _, .cons r t => .cons (r.tk k) (Rws.tk k t)
theorem Rws.snoc {H : Hp} {x : V} {vs : List V} (r : Rw H x vs) : ∀ {xs : List V} {rows : List (List V)}, Rws H xs rows → Rws H (xs ++ [x]) (rows ++ [vs])
  | _, _, .nil => .cons r .nil
  | _, _, .cons q t => .cons q (Rws.snoc r t)
theorem Rws.len {H : Hp} {xs : List V} {rows : List (List V)} (h : Rws H xs rows) : xs.length = rows.length := Paired.length h
theorem Rws.get {H : Hp} : ∀ {xs : List V} {rows : List (List V)} {i : Nat} {x : V}, Rws H xs rows → xs[i]? = some x → ∃ vs, rows[i]? = some vs ∧ Rw H x vs
  | _, _, _, _, .nil, e => by simp at e
  | _, _, 0, _, .cons r _, e => by
    simp at e
    subst e
    exact ⟨_, rfl, r⟩
  | _, _, i + 1, x, .cons _ t, e => by
    obtain ⟨vs, h1, h2⟩ := Rws.get (i := i) (x := x) t (by simpa using e)
    exact ⟨vs, by simpa using h1, h2⟩
theorem small_in {ds : List Int} {lo hi : Int} (h : ∀ d ∈ ds, lo ≤ d ∧ d ≤ hi) {x : V} (hx : x ∈ ds.map V.int) : ∃ d, x = .int d ∧ lo ≤ d ∧ d ≤ hi := by
  obtain ⟨d, hd, rfl⟩ := List.mem_map.mp hx
  exact ⟨d, rfl, h d hd⟩
theorem strs_get {zs : List Str} {i : Nat} {y : V} (h : (zs.map V.str)[i]? = some y) : ∃ z, y = .str z ∧ zs[i]? = some z := by
  rw [List.getElem?_map] at h
  cases q : zs[i]? with
  | none => rw [q] at h; cases h
  | some z =>
    rw [q] at h
    exact ⟨z, (Option.some.inj h).symm, rfl⟩
theorem asc_snoc {α : Type} {R : α → α → Prop} {xs : List α} {x : α} (h : xs.Pairwise R) (b : ∀ y ∈ xs, R y x) : (xs ++ [x]).Pairwise R := by
  rw [List.pairwise_append]
  refine ⟨h, List.pairwise_singleton _ _, fun a ha c hc => ?_⟩
  rw [List.mem_singleton.mp hc]
  exact b a ha
theorem cut_take (xs : List V) (k : Nat) : cutV xs none (some (k : Int)) = xs.take k := by
  unfold cutV
  rw [HT.sIx_none, HT.sIx_nat, List.drop_zero, Nat.sub_zero]
  by_cases h : k ≤ xs.length
  · rw [Nat.min_eq_left h]
  · rw [Nat.min_eq_right (by omega), List.take_length, List.take_of_length_le (by omega)]
theorem Tk.dct {H : Hp} {q : Addr} {kvs : List (Key × V)} {o : HO} (h : H q = some (.dK kvs)) : Tk H (upd H q o) := fun b ys hb => by
  rw [upd_ne (ne_of hb h (by intro z; cases z))]
  exact hb
theorem by_ {te : TE} {σ : L2.St} {H : Hp} {Q : VK} (Pv : V → Hp → Prop) (h1 : ∀ Q : VK, (∀ x H', Pv x H' → Q x H') → te σ H Q) (h2 : ∀ x H', Pv x H' → Q x H') : te σ H Q := h1 Q h2
theorem ts_by {ts : TS} {D : Ends} {σ : L2.St} {H : Hp} (Pv : L2.St → Hp → Prop) (h1 : ∀ D : Ends, (∀ σ H, Pv σ H → D.nx σ H) → ts D σ H) (h2 : ∀ σ H, Pv σ H → D.nx σ H) : ts D σ H := h1 D h2
theorem for_rng_by {te : TE} {g : TG} {tb : TS} {D : Ends} {σ : L2.St} {H : Hp} (Pn : Int → Hp → Prop) (h1 : ∀ Q : VK, (∀ n H', Pn n H' → Q (.int n) H') → te σ H Q)
    (h2 : ∀ n H', Pn n H' → -(2 ^ 62) ≤ n ∧ n < 2 ^ 62 ∧ ∃ Pv : Nat → L2.St → Hp → Prop, Pv 0 σ H' ∧ (∀ i σ H, i < n.toNat → Pv i σ H → g (.int (0 + (i : Int))) σ H fun σ2 H2 => tb { D with nx := Pv (i + 1), ct := Pv (i + 1), bk := D.nx } σ2 H2) ∧ ∀ σ H, Pv n.toNat σ H → D.nx σ H) :
    tFor (iRng1 (tCons te tNil)) g tb D σ H := by
  show te σ H fun x H1 => _
  refine h1 _ fun n H' hn => ?_
  obtain ⟨b1, b2, Pv, p0, ps, pd⟩ := h2 n H' hn
  exact ⟨n, rfl, b1, b2, for_range Pv p0 ps pd⟩
/-- a list or a tuple, and isinstance sees which -/
structure Lt (K : PySem.W.Frag) (H : Hp) (a : Addr) (xs : List V) : Prop where
  sq : Sq K H a xs
  ty : ∃ T, Ts K H (.ref a) T ∧ (T = "list" ∨ T = "tuple")
theorem Lt.same {K : PySem.W.Frag} {H H' : Hp} {a : Addr} {xs : List V} (h : Lt K H a xs) (s : Same H H') : Lt K H' a xs := ⟨h.sq.same s, let ⟨T, t, e⟩ := h.ty; ⟨T, t.same s, e⟩⟩
theorem Lt.lst {K : PySem.W.Frag} {H : Hp} {a : Addr} {xs : List V} (h : H a = some (.lst xs)) : Lt K H a xs := ⟨.inl (SqL.of h), "list", .lst h, .inl rfl⟩
theorem Lt.tup {K : PySem.W.Frag} {H : Hp} {a : Addr} {xs : List V} (h : H a = some (.tup xs)) : Lt K H a xs := ⟨.inr (SqT.of h), "tuple", .tup (SqT.of h), .inr rfl⟩
theorem Lt.tupK {K : PySem.W.Frag} {H : Hp} {a : Addr} {xs : List V} (h : SqT K H a xs) : Lt K H a xs := ⟨.inr h, "tuple", .tup h, .inr rfl⟩
theorem Rws.same {H H' : Hp} {xs : List V} {rows : List (List V)} (h : Rws H xs rows) (s : Same H H') : Rws H' xs rows := h.tk (Tk.of s)
theorem dec_len {n m : Nat} : decide (V.int (n : Int) = V.int (m : Int)) = decide (n = m) := by
  by_cases h : n = m
  · subst h
    rw [decide_eq_true rfl, decide_eq_true rfl]
  · rw [decide_eq_false h, decide_eq_false fun e => h (by injection e with e; omega)]
theorem pg_tupK {X : Cx} {K : PySem.W.Frag} {es : List Expr} {k : Nat} {t : TGs} {n : Nat} {pos : Pos} (hK : X.K = K) (hc : X.calm = true) (h : PGs X es t)
    (hn : (assignEach es X.env).length = n := by rfl) (hst : (assignEach es X.env).findIdx? (·.1) = none := by rfl) : PG X (.Tuple es k pos) (gTup K n t) := by
  subst hK
  exact pg_tup hc h hn hst
theorem all_true : ∀ xs : List V, (xs.map fun _ => true).all id = true
  | [] => rfl
  | _ :: xs => all_true xs
theorem Rws.at_ {α : Type} {f : α → List V} {H : Hp} {xs : List V} {l : List α} {i : Nat} {x : V} (rows : Rws H xs (l.map f)) (h : xs[i]? = some x) : ∃ r p, l[i]? = some r ∧ x = .ref p ∧ H p = some (.tup (f r)) := by
  obtain ⟨vs, hv, p, rfl, hp⟩ := rows.get h
  rw [List.getElem?_map] at hv
  cases e : l[i]? with
  | none => rw [e] at hv; cases hv
  | some r =>
    rw [e] at hv
    cases hv
    exact ⟨r, p, rfl, rfl, hp⟩
theorem take_line {α β : Type} {f : α → β} {xs : List α} (i : Nat) {m : Nat} (h : xs.length ≤ m) (hm : m ≤ 100000) : ((xs.take i).map f).length < sizeLine := by
  refine line_of (m := m) ?_ hm
  rw [List.length_map]
  exact Nat.le_trans (List.length_take_le' _ _) h
theorem lc_seqS {K : PySem.W.Frag} {H1 : Hp} {a : Addr} {xs : List V} {g : TG} {tt : TT} {te : TE} {vs : List Nat} {σ : L2.St} {Q : Addr → Hp → Prop} (h : Sq K H1 a xs) (P : Addr → Nat → Hp → Prop) (h0 : ∀ D, H1 D = none → P D 0 (upd H1 D (.lst [])))
    (hs : ∀ D i H, P D i H → Same H1 H)
    (turn : ∀ D, H1 D = none → ∀ i x H, xs[i]? = some x → P D i H → g x (wipe σ vs) H fun σ2 H2 => wipe σ2 vs = wipe σ vs ∧ tt σ2 H2 fun b H3 =>
      if b = true then te σ2 H3 fun y H4 => ∃ acc, H4 D = some (.lst acc) ∧ acc.length < sizeLine ∧ P D (i + 1) (upd H4 D (.lst (acc ++ [y]))) else P D (i + 1) H3)
    (fin : ∀ D H, H1 D = none → P D xs.length H → Q D H) :
    ((∃ xs, SqL K H1 a xs) ∧ LcR g tt te vs σ Q (Itl K a) H1) ∨ ((∃ xs, SqT K H1 a xs) ∧ LcR g tt te vs σ Q (Itt K a) H1) := by
  refine seq_by (R := LcR g tt te vs σ Q) h fun J G w g0 D nD => ?_
  refine lc_it w (P D) (h0 D nD) (fun i H _ p => g0 H (hs D i H p)) ?_ (fun H p => fin D H nD p)
  rintro i x H2 H3 hi p ⟨rfl, hx⟩
  exact turn D nD i x H3 hx p
def TkMono {α : Type} (R : Hp → V → α → Prop) : Prop := ∀ H H' x w, Tk H H' → R H x w → R H' x w
structure LcN {α : Type} (H1 : Hp) (D : Addr) (R : Hp → V → α → Prop) (L : Nat → List α) (i : Nat) (H : Hp) : Prop where
  same : Same H1 H
  at_ : ∃ ys, H D = some (.lst ys) ∧ Paired (R H) ys (L i)
theorem paired_mono {α : Type} {R S : V → α → Prop} (h : ∀ x w, R x w → S x w) : ∀ {xs : List V} {ws : List α}, Paired R xs ws → Paired S xs ws
  | _, _, .nil => .nil
  | _, _, .cons r t => .cons (h _ _ r) (paired_mono h t)
theorem paired_snoc {α : Type} {R : V → α → Prop} {x : V} {w : α} (r : R x w) : ∀ {xs : List V} {ws : List α}, Paired R xs ws → Paired R (xs ++ [x]) (ws ++ [w])
  | _, _, .nil => .cons r .nil
  | _, _, .cons q t => .cons q (paired_snoc r t)
theorem paired_app {α : Type} {R : V → α → Prop} {ys : List V} {vs : List α} (h : Paired R ys vs) : ∀ {xs : List V} {ws : List α}, Paired R xs ws → Paired R (xs ++ ys) (ws ++ vs)
  | _, _, .nil => h
  | _, _, .cons q t => .cons q (paired_app h t)
theorem paired_at {α : Type} {R : V → α → Prop} : ∀ {xs : List V} {ws : List α} {i : Nat} {x : V}, Paired R xs ws → xs[i]? = some x → ∃ w, ws[i]? = some w ∧ R x w
  | _, _, _, _, .nil, e => by simp at e
  | _, _, 0, _, .cons r _, e => by
    simp at e
    subst e
    exact ⟨_, rfl, r⟩
  | _, _, i + 1, x, .cons _ t, e => by
    obtain ⟨w, h1, h2⟩ := paired_at (i := i) (x := x) t (by simpa using e)
    exact ⟨w, by simpa using h1, h2⟩
section
variable {α : Type} {H1 H H' : Hp} {D : Addr} {R : Hp → V → α → Prop} {L : Nat → List α} {i : Nat}
theorem LcN.zero (nD : H1 D = none) (e : L 0 = []) : LcN H1 D R L 0 (upd H1 D (.lst [])) := ⟨Same.new nD, [], upd_same, by rw [e]; exact .nil⟩
theorem LcN.ext (m : TkMono R) (h : LcN H1 D R L i H) (s : Same H H') : LcN H1 D R L i H' := by
  obtain ⟨ys, e, p⟩ := h.at_
  exact ⟨h.same.trans s, ys, s _ _ e, paired_mono (fun x w r => m _ _ _ _ (Tk.of s) r) p⟩
theorem LcN.skip (h : LcN H1 D R L i H) (e : L (i + 1) = L i) : LcN H1 D R L (i + 1) H := ⟨h.same, by rw [e]; exact h.at_⟩
theorem LcN.put {y : V} {w : α} (m : TkMono R) (h : LcN H1 D R L i H) (nD : H1 D = none) (r : R H y w) (e : L (i + 1) = L i ++ [w]) (hl : (L i).length < sizeLine) :
    ∃ acc, H D = some (.lst acc) ∧ acc.length < sizeLine ∧ LcN H1 D R L (i + 1) (upd H D (.lst (acc ++ [y]))) := by
  obtain ⟨ys, e1, p⟩ := h.at_
  have tk : Tk H (upd H D (.lst (ys ++ [y]))) := Tk.lst e1
  refine ⟨ys, e1, by rw [Paired.length p]; exact hl, fun b o hb => ?_, ys ++ [y], upd_same, ?_⟩
  · rw [upd_ne (ne_of_none hb nD)]
    exact h.same b o hb
  · rw [e]
    exact paired_snoc (m _ _ _ _ tk r) (paired_mono (fun x w q => m _ _ _ _ tk q) p)
end
theorem lc_new {α : Type} {K : PySem.W.Frag} {H1 : Hp} {a : Addr} {xs : List V} {g : TG} {tt : TT} {te : TE} {vs : List Nat} {σ : L2.St} {Q : Addr → Hp → Prop} (h : Sq K H1 a xs) (R : Hp → V → α → Prop) (L : Nat → List α) (h0 : L 0 = [])
    (turn : ∀ D, H1 D = none → ∀ i x H, xs[i]? = some x → LcN H1 D R L i H → g x (wipe σ vs) H fun σ2 H2 => wipe σ2 vs = wipe σ vs ∧ tt σ2 H2 fun b H3 =>
      if b = true then te σ2 H3 fun y H4 => ∃ acc, H4 D = some (.lst acc) ∧ acc.length < sizeLine ∧ LcN H1 D R L (i + 1) (upd H4 D (.lst (acc ++ [y]))) else LcN H1 D R L (i + 1) H3)
    (fin : ∀ D H ys, H1 D = none → Same H1 H → H D = some (.lst ys) → Paired (R H) ys (L xs.length) → Q D H) :
    ((∃ xs, SqL K H1 a xs) ∧ LcR g tt te vs σ Q (Itl K a) H1) ∨ ((∃ xs, SqT K H1 a xs) ∧ LcR g tt te vs σ Q (Itt K a) H1) :=
  lc_seqS h (fun D i H => LcN H1 D R L i H) (fun D nD => .zero nD h0) (fun D i H p => p.same) turn fun D H nD p => let ⟨ys, e, q⟩ := p.at_; fin D H ys nD p.same e q
/-- a tuple of texts -/
def BT (H : Hp) (x : V) (b : List Str) : Prop := ∃ q, x = .ref q ∧ H q = some (.tup (b.map V.str))
theorem bt_mono : TkMono BT := fun H H' x w k ⟨q, e, h⟩ => ⟨q, e, k _ _ h⟩
theorem eqV_str (n z : Str) : eqV (.str n) (.str z) = decide (n = z) := by
  first | rfl | (show (n == z) = decide (n = z); rfl) | (simp [eqV])
def Lay (n : Nat) (d : PyData) : Prop := d.canLay0 = true ∧ d.depth ≤ n
def LayA (n : Nat) (ds : List PyData) : Prop := PyData.canLayAll0 ds = true ∧ PyData.depthAll ds ≤ n
theorem Lay.mono {n m : Nat} {d : PyData} (h : Lay n d) (k : n ≤ m) : Lay m d := ⟨h.1, Nat.le_trans h.2 k⟩
theorem LayA.nil {n : Nat} : LayA n [] := ⟨by simp [PyData.canLayAll0], by simp [PyData.depthAll]⟩
theorem LayA.cons {n : Nat} {d : PyData} {ds : List PyData} (h : Lay n d) (k : LayA n ds) : LayA n (d :: ds) := by
  refine ⟨by simp [PyData.canLayAll0, h.1, k.1], ?_⟩
  have h2 := h.2
  have k2 := k.2
  simp only [PyData.depthAll]
  omega
theorem LayA.of {n : Nat} : ∀ {ds : List PyData}, (∀ d ∈ ds, Lay n d) → LayA n ds
  | [], _ => .nil
  | d :: ds, h => .cons (h d List.mem_cons_self) (LayA.of fun e he => h e (List.mem_cons_of_mem _ he))
theorem Lay.tup {n : Nat} {ds : List PyData} (h : LayA n ds) : Lay (n + 1) (.tuple ds) := by
  refine ⟨by simp only [PyData.canLay0]; exact h.1, ?_⟩
  have h2 := h.2
  simp only [PyData.depth]
  omega
theorem Lay.lst {n : Nat} {ds : List PyData} (h : LayA n ds) : Lay (n + 1) (.list ds) := by
  refine ⟨by simp only [PyData.canLay0]; exact h.1, ?_⟩
  have h2 := h.2
  simp only [PyData.depth]
  omega
theorem Lay.str {n : Nat} {z : Str} (h : PyData.strOk z = true) : Lay n (.str z) := ⟨by simp [PyData.canLay0, h], by simp [PyData.depth]⟩
theorem Lay.int {n : Nat} {i : Int} : Lay n (.int i) := ⟨by simp [PyData.canLay0], by simp [PyData.depth]⟩
theorem Lay.non {n : Nat} : Lay n .none := ⟨by simp [PyData.canLay0], by simp [PyData.depth]⟩
theorem Lay.bl {n : Nat} {b : Bool} : Lay n (.bool b) := ⟨by simp [PyData.canLay0], by simp [PyData.depth]⟩
theorem Lay.shaped {n : Nat} {d : PyData} (h : Lay n d) (k : n ≤ 64) : SeqAt.shaped d = true := by
  show (d.canLay0 && decide (d.depth ≤ 64)) = true
  rw [Bool.and_eq_true]
  exact ⟨h.1, decide_eq_true (Nat.le_trans h.2 k)⟩
theorem dp_strA {K : PySem.W.Frag} {H : Hp} : ∀ zs : List Str, DpAll K H (zs.map V.str) (zs.map PyData.str)
  | [] => .nil
  | z :: zs => .cons (.str z) (dp_strA zs)
theorem lay_strA {n : Nat} {zs : List Str} (h : Oks zs) : LayA n (zs.map PyData.str) := LayA.of fun d hd => by
  obtain ⟨z, hz, rfl⟩ := List.mem_map.mp hd
  exact Lay.str (h z hz)
def rEqDD (K : PySem.W.Frag) : R2 := fun x y H Q => ∃ a b ks ls, x = .ref a ∧ y = .ref b ∧ H a = some (.dK ks) ∧ H b = some (.dK ls) ∧ ks.length = ls.length ∧
  (∀ p ∈ ks, ∃ u, valV ls p.1 = some u ∧ ∃ d, Dp K H p.2 d ∧ Dp K H u d ∧ Lay 60 d) ∧ Q (.bl true) H
theorem op_eqDD {X : Cx} (room : X.A.units + 70 < cLine) : OpR X (compareOp .Eq) (rEqDD X.K) := by
  intro pins s σ H x y v u Q I rx ry ⟨a, b, ks, ls, ex, ey, ha, hb, len, vals, q⟩
  subst ex ey
  cases rx
  cases ry
  have like : ∀ (x y : V) (v u : Value), (∃ d, Dp X.K H x d ∧ Dp X.K H y d ∧ Lay 60 d) → RelV x v → RelV y u → SeqAt.EqP X.prog X.w X.A.in1 s v u true := by
    rintro x y v u ⟨d, d1, d2, lay⟩ r1 r2
    obtain ⟨_, t1⟩ := d1.reads I d x v r1
    obtain ⟨_, t2⟩ := d2.reads I d y u r2
    have e := SeqAt.eqAt_reads d d X.A.in1 s v u _ _ t1 t2 lay.1 lay.1 (by
      have l2 := lay.2
      have l3 : X.A.in1.units = X.A.units + 1 := rfl
      rw [Nat.min_self, l3]
      omega)
    rw [SeqAt.eqv_refl d lay.1] at e
    exact e.eqP
  obtain ⟨_, n1, va, r1, c1⟩ := (show ObjOk X.prog X.w H s.heap a (.dK ks) from I.hok a _ ha)
  obtain ⟨_, n2, vb, r2, c2⟩ := (show ObjOk X.prog X.w H s.heap b (.dK ls) from I.hok b _ hb)
  have same : (va.length == vb.length && true) = true := by rw [← r1.length, ← r2.length, len]; simp
  show wpAny (model X.prog X.w) X.A (richCompare .Eq (.ref a) (.ref b)) (EP X pins σ Q) X.xe s
  refine PySem.W.rcP_dicts (r := true) (knd := mixKind X.prog X.w) n1 n2 c1 c2 (by omega) (fun _ => hits_run like r2 r1 vals) _ _ ?_
  rw [same]
  exact ⟨.bl true, H, I, rfl, q⟩
def letters : Str := "abcdefghijklmnopqrstuvwxyz"
def signs (z : Str) : List Bool := z.cps.toList.map fun c => decide (c ∈ letters.cps.toList)
def isWord : V → Bool
  | .str z => (decide ((1 : Int) ≤ (z.length : Int)) && decide ((z.length : Int) ≤ 8)) && (signs z).all id
  | _ => false
def strsL (K : PySem.W.Frag) (H : Hp) (a : Addr) (ns : List Str) : Prop := SqL K H a (ns.map V.str) ∨ SqT K H a (ns.map V.str)
def isOne (ns : List Str) : V → Bool
  | .str z => decide (z ∈ ns)
  | _ => false
theorem inV_strs (z : Str) : ∀ ns : List Str, inV (.str z) (ns.map V.str) = decide (z ∈ ns)
  | [] => rfl
  | n :: ns => by
    have ih := inV_strs z ns
    show (eqV (.str n) (.str z) || inV (.str z) (ns.map V.str)) = decide (z ∈ n :: ns)
    rw [ih]
    have e : eqV (.str n) (.str z) = decide (n = z) := by
      first | rfl | (show (n == z) = decide (n = z); rfl) | (simp [eqV])
    rw [e]
    by_cases h : n = z
    · subst h
      simp
    · have h' : ¬ z = n := fun q => h q.symm
      simp [h, h']
theorem flat_strsV (ys : List Str) : (ys.map V.str).all flatV = true := by
  rw [List.all_eq_true]
  intro x hx
  obtain ⟨y, _, rfl⟩ := List.mem_map.mp hx
  rfl
def unlike (ns : List Str) (xs : List V) : Bool := !decide ((ns.length : Int) < (xs.length : Int)) && (xs.all (isOne ns) && decide ((xs.filterMap strOf).Nodup))
theorem strs_back {ns : List Str} : ∀ {xs : List V}, xs.all (isOne ns) = true → xs = (xs.filterMap strOf).map V.str
  | [], _ => rfl
  | x :: xs, h => by
    rw [List.all_cons, Bool.and_eq_true] at h
    cases x with
    | str z => exact congrArg (V.str z :: ·) (strs_back h.2)
    | _ => exact absurd h.1 (by simp [isOne])
theorem pi_seqK {X : Cx} {K : PySem.W.Frag} {tg l : Expr} {tl : TE} (hK : X.K = K) (hl : PE X l tl) : PI X tg l (iSeq K tl) := by
  subst hK
  exact pi_seq hl
end Rt
end
section
set_option Elab.async false
set_option linter.all false
set_option maxRecDepth 100000
set_option maxHeartbeats 4000000
/-! sets made of a list or a tuple: the call taken apart from the loop that fills the set -/
namespace Rt
open PySem PySem.Spec PyProof.Rows
section
variable {prog : Program} {w : World} {A : Around} {E : Value → Shared → Prop} {s : Shared}
/-- the heap as the filling loop finds it: an empty set, behind it an iterator -/
def setAhead (w : World) (led : Bool) (h : Heap) (kind : String) (l : Addr) : Heap :=
  (h.push { cls := .type "set", dict := none, data := .set #[] 0 (.fresh 0 0 led) }).push { cls := .type kind, data := .fields #[.ref l, .int 0 0] }
abbrev eqG : Array GenState → Array GenState → Prop := fun a b => b = a
/-- what the loop has to do -/
def Fills (prog : Program) (w : World) (led : Bool) (s : Shared) (kind : String) (l : Addr) (T : Heap → Prop) (u : Nat) : Prop :=
  ∀ (B : Around) (R : Result → Shared → Prop), B.in1.handled = none → B.in1.units ≤ u →
    (∀ s', Moved [s.heap.objs.size, s.heap.objs.size + 1] eqG { s with heap := setAhead w led s.heap kind l } s' → T s'.heap → R (.ok (.ret .none)) s') →
    codeAny (model prog w) B (.builtin "set.update.loop" ⟨[.ref s.heap.objs.size, .ref (s.heap.objs.size + 1)], []⟩) R { s with heap := setAhead w led s.heap kind l }
theorem led_new (a : Value) {Z : Value → Shared → Prop} (k : ∀ led : Bool, led = (!w.params.followText "set-order") → Z (.ref s.heap.objs.size) { s with heap := s.heap.push { cls := .type "set", dict := none, data := .set #[] 0 (.fresh 0 0 led) } }) :
    codeAny (model prog w) A (.call (.builtin "set.__new__") ⟨[.type "set", a], []⟩) (wants Z E) s := L2.code_set_led1 a (k _ rfl)

set_option maxHeartbeats 3200000 in
theorem set_list {l : Addr} {items : Array Value} {T : Heap → Prop} {Q : Value → Shared → Prop} (hh : A.handled = none) (src : s.heap.IsList l items)
    (F0 : ∀ led : Bool, led = (!w.params.followText "set-order") → Fills prog w led s "list_iterator" l T (A.units + 3))
    (fin : ∀ (h' : Heap) (tk : Nat), T h' → (∀ b o, s.heap.get? b = some o → h'.get? b = some o) → Q (.ref s.heap.objs.size) { s with heap := h', toks := tk }) :
    wpAny (model prog w) A (call (.type "set") [.ref l]) Q E s := by
  have g1 := PySem.F.called_set.made
  have g2 := PySem.F.called_set.sub
  have g3 := PySem.F.called_set.notType
  have g4 := PySem.F.called_set.canCreate
  have g5 := PySem.F.typeCall_set_1 (.ref l)
  obtain ⟨g6, g7, g8⟩ := PySem.F.called_set.mro
  apply wpAny_call
  apply codeAny_of_tree
  show wpAny _ _ (callAny (.type "set") _) _ _ _
  apply wpAny_pure
  refine ⟨Code.quiet_builtin _ (by decide +kernel), ?_⟩
  apply codeAny_builtin PySem.F.entry_type_call
  rw [Around.under_plain (weight_type_call_type "set" [.ref l] []) rfl]
  repeat (any_goals (first | assumption | wp_step))

  apply codeAny_mono (led_new (.ref l) (E := E) (Z := fun x t => ∃ led : Bool, led = (!w.params.followText "set-order") ∧ x = .ref s.heap.objs.size ∧ t = { s with heap := s.heap.push { cls := .type "set", dict := none, data := .set #[] 0 (.fresh 0 0 led) } }) fun led e => ⟨led, e, rfl, rfl⟩)
  rintro r s₁ made
  rcases r with _ | fl
  · exact made
  rcases fl with _ | _ | _ | x
  any_goals (first | exact made.elim | skip)
  obtain ⟨led, eled, rfl, rfl⟩ := made
  generalize eO : ({ cls := .type "set", dict := none, data := .set #[] 0 (.fresh 0 0 led) } : Obj) = O at *
  have atS : (s.heap.push O).get? s.heap.objs.size = some O := Heap.get?_push_size _ (by subst eO; rfl)
  have tyS : Shared.TypeIs { s with heap := s.heap.push O } (.ref s.heap.objs.size) "set" := ⟨_, atS, by subst eO; rfl⟩
  have g9 := PySem.F.called_set.init.lookup
  have g10 := PySem.F.called_set.init.bind (.ref s.heap.objs.size)
  repeat (any_goals (first | assumption | wp_step))

  apply codeAny_mono (codeAny_call_builtin (R := wants (fun r t => r = .none ∧ ∃ h' tk, t = { s with heap := h', toks := tk } ∧ T h' ∧ (∀ b o, s.heap.get? b = some o → h'.get? b = some o)) E) PySem.F.called_set.init.plain PySem.F.entry_set_init (check_set_init_1 tyS ?_))
  · rintro r s₂ done
    rcases r with _ | fl
    · exact done
    rcases fl with _ | _ | _ | x
    any_goals (first | exact done.elim | skip)
    obtain ⟨rfl, h', tk, rfl, t1, t2⟩ := done
    repeat (any_goals (first | assumption | wp_step))
    exact fin _ _ t1 t2
  · obtain ⟨ob, ol, oc, cnt, od⟩ := src
    obtain ⟨c0, c1, c2, c3⟩ := ob
    simp only at oc od
    subst oc od
    have keep : (s.heap.push O).get? l = some { cls := .type "list", dict := c1, data := .seq items cnt, slots := c3 } := Heap.get?_push_of_some _ ol
    have k1 := PySem.F.sub_list_set
    have k2 := PySem.F.sub_list_frozenset
    have k3 : (Value.type "list" == Value.type "dict") = false := by decide
    have inner : (s.heap.push O).IsList l items := ⟨_, keep, rfl, cnt, rfl⟩
    subst eO
    unfold Builtin.«set.__init__» noKeywords Builtin.Frozenset.updateFrom
    generalize ePI : pyIter = PI
    wp_walk
    subst ePI
    apply wpAny_pyIter_list inner
    apply wpAny_bind
    apply wpAny_runValue
    have small : l < s.heap.objs.size := Heap.lt_size ol
    have calm : A.in1.in1.in1.handled = none := by simp [hh]
    have two : (s.heap.push { cls := .type "set", dict := none, data := .set #[] 0 (.fresh 0 0 led) }).objs.size = s.heap.objs.size + 1 := Heap.size_push ..
    have run := F0 led eled
    unfold Fills setAhead at run
    rw [two]
    apply run _ _ calm (Nat.le_refl _)
    intro s' mv tT
    obtain ⟨hp, gs, dr, tk, os⟩ := s'
    have e1 : gs = s.gens := mv.gens
    have e2 : dr = s.drawn := mv.drawn
    have e3 : os = s.os := mv.os
    subst e1 e2 e3
    show wpAny _ _ _ _ _ _
    apply wpAny_pure
    show wpAny _ _ (ret Value.none) _ _ _
    refine wpAny_pure ⟨rfl, hp, tk, rfl, tT, fun b o hb => mv.heap b o ?_ (Heap.get?_push_of_some _ (Heap.get?_push_of_some _ hb))⟩
    have lt := Heap.lt_size hb
    simp only [List.mem_cons, List.not_mem_nil, or_false, not_or]
    exact ⟨Nat.ne_of_lt lt, Nat.ne_of_lt (Nat.lt_succ_of_lt lt)⟩

set_option maxHeartbeats 3200000 in
theorem set_tuple {l : Addr} {items : Array Value} {T : Heap → Prop} {Q : Value → Shared → Prop} (hh : A.handled = none) (src : s.heap.IsTuple l items)
    (F0 : ∀ led : Bool, led = (!w.params.followText "set-order") → Fills prog w led s "tuple_iterator" l T (A.units + 3))
    (fin : ∀ (h' : Heap) (tk : Nat), T h' → (∀ b o, s.heap.get? b = some o → h'.get? b = some o) → Q (.ref s.heap.objs.size) { s with heap := h', toks := tk }) :
    wpAny (model prog w) A (call (.type "set") [.ref l]) Q E s := by
  have g1 := PySem.F.called_set.made
  have g2 := PySem.F.called_set.sub
  have g3 := PySem.F.called_set.notType
  have g4 := PySem.F.called_set.canCreate
  have g5 := PySem.F.typeCall_set_1 (.ref l)
  obtain ⟨g6, g7, g8⟩ := PySem.F.called_set.mro
  apply wpAny_call
  apply codeAny_of_tree
  show wpAny _ _ (callAny (.type "set") _) _ _ _
  apply wpAny_pure
  refine ⟨Code.quiet_builtin _ (by decide +kernel), ?_⟩
  apply codeAny_builtin PySem.F.entry_type_call
  rw [Around.under_plain (weight_type_call_type "set" [.ref l] []) rfl]
  repeat (any_goals (first | assumption | wp_step))

  apply codeAny_mono (led_new (.ref l) (E := E) (Z := fun x t => ∃ led : Bool, led = (!w.params.followText "set-order") ∧ x = .ref s.heap.objs.size ∧ t = { s with heap := s.heap.push { cls := .type "set", dict := none, data := .set #[] 0 (.fresh 0 0 led) } }) fun led e => ⟨led, e, rfl, rfl⟩)
  rintro r s₁ made
  rcases r with _ | fl
  · exact made
  rcases fl with _ | _ | _ | x
  any_goals (first | exact made.elim | skip)
  obtain ⟨led, eled, rfl, rfl⟩ := made
  generalize eO : ({ cls := .type "set", dict := none, data := .set #[] 0 (.fresh 0 0 led) } : Obj) = O at *
  have atS : (s.heap.push O).get? s.heap.objs.size = some O := Heap.get?_push_size _ (by subst eO; rfl)
  have tyS : Shared.TypeIs { s with heap := s.heap.push O } (.ref s.heap.objs.size) "set" := ⟨_, atS, by subst eO; rfl⟩
  have g9 := PySem.F.called_set.init.lookup
  have g10 := PySem.F.called_set.init.bind (.ref s.heap.objs.size)
  repeat (any_goals (first | assumption | wp_step))

  apply codeAny_mono (codeAny_call_builtin (R := wants (fun r t => r = .none ∧ ∃ h' tk, t = { s with heap := h', toks := tk } ∧ T h' ∧ (∀ b o, s.heap.get? b = some o → h'.get? b = some o)) E) PySem.F.called_set.init.plain PySem.F.entry_set_init (check_set_init_1 tyS ?_))
  · rintro r s₂ done
    rcases r with _ | fl
    · exact done
    rcases fl with _ | _ | _ | x
    any_goals (first | exact done.elim | skip)
    obtain ⟨rfl, h', tk, rfl, t1, t2⟩ := done
    repeat (any_goals (first | assumption | wp_step))
    exact fin _ _ t1 t2
  · obtain ⟨ob, ol, oc, cnt, od⟩ := src
    obtain ⟨c0, c1, c2, c3⟩ := ob
    simp only at oc od
    subst oc od
    have keep : (s.heap.push O).get? l = some { cls := .type "tuple", dict := c1, data := .seq items cnt, slots := c3 } := Heap.get?_push_of_some _ ol
    have k1 := PySem.F.sub_tuple_set
    have k2 := PySem.F.sub_tuple_frozenset
    have k3 : (Value.type "tuple" == Value.type "dict") = false := by decide
    have inner : (s.heap.push O).IsTuple l items := ⟨_, keep, rfl, cnt, rfl⟩
    subst eO
    unfold Builtin.«set.__init__» noKeywords Builtin.Frozenset.updateFrom
    generalize ePI : pyIter = PI
    wp_walk
    subst ePI
    apply wpAny_pyIter_tuple inner
    apply wpAny_bind
    apply wpAny_runValue
    have small : l < s.heap.objs.size := Heap.lt_size ol
    have calm : A.in1.in1.in1.handled = none := by simp [hh]
    have two : (s.heap.push { cls := .type "set", dict := none, data := .set #[] 0 (.fresh 0 0 led) }).objs.size = s.heap.objs.size + 1 := Heap.size_push ..
    have run := F0 led eled
    unfold Fills setAhead at run
    rw [two]
    apply run _ _ calm (Nat.le_refl _)
    intro s' mv tT
    obtain ⟨hp, gs, dr, tk, os⟩ := s'
    have e1 : gs = s.gens := mv.gens
    have e2 : dr = s.drawn := mv.drawn
    have e3 : os = s.os := mv.os
    subst e1 e2 e3
    show wpAny _ _ _ _ _ _
    apply wpAny_pure
    show wpAny _ _ (ret Value.none) _ _ _
    refine wpAny_pure ⟨rfl, hp, tk, rfl, tT, fun b o hb => mv.heap b o ?_ (Heap.get?_push_of_some _ (Heap.get?_push_of_some _ hb))⟩
    have lt := Heap.lt_size hb
    simp only [List.mem_cons, List.not_mem_nil, or_false, not_or]
    exact ⟨Nat.ne_of_lt lt, Nat.ne_of_lt (Nat.lt_succ_of_lt lt)⟩
end
end Rt
end
section
set_option Elab.async false
set_option linter.all false
set_option maxRecDepth 100000
set_option maxHeartbeats 4000000
/-! set(xs) of ints and texts: which are in, how many there are; sorted(set(xs)) of ints -/
namespace Rt
open PySem PySem.Spec PyProof.Rows
/-! ### how many unlike ones -/
section
variable {κ : Type} [DecidableEq κ]
/-- of the list turned about -/
def cntR : List κ → Nat
  | [] => 0
  | x :: r => if x ∈ r then cntR r else cntR r + 1
def cnt (l : List κ) : Nat := cntR l.reverse
theorem cnt_snoc (l : List κ) (x : κ) : cnt (l ++ [x]) = if x ∈ l then cnt l else cnt l + 1 := by
  unfold cnt
  rw [List.reverse_append]
  show (if x ∈ l.reverse then cntR l.reverse else cntR l.reverse + 1) = _
  simp only [List.mem_reverse]
theorem cntR_le : ∀ l : List κ, cntR l ≤ l.length
  | [] => Nat.le_refl _
  | x :: r => by
    have := cntR_le r
    show (if x ∈ r then cntR r else cntR r + 1) ≤ r.length + 1
    split <;> omega
theorem cnt_le (l : List κ) : cnt l ≤ l.length := by
  have := cntR_le l.reverse
  rw [List.length_reverse] at this
  exact this
theorem cntR_nd : ∀ l : List κ, cntR l = l.length ↔ l.Nodup
  | [] => by simp [cntR]
  | x :: r => by
    have ih := cntR_nd r
    have le := cntR_le r
    show (if x ∈ r then cntR r else cntR r + 1) = r.length + 1 ↔ _
    rw [List.nodup_cons, ← ih]
    by_cases h : x ∈ r
    · rw [if_pos h]
      constructor
      · intro e
        omega
      · intro e
        exact absurd h e.1
    · rw [if_neg h]
      constructor
      · intro e
        exact ⟨h, by omega⟩
      · intro e
        omega
theorem cnt_nd (l : List κ) : cnt l = l.length ↔ l.Nodup := by
  unfold cnt
  rw [← List.length_reverse, cntR_nd]
  exact (List.reverse_perm l).nodup_iff
end
/-! ### the filling loop, for any kind of key that is carried by its value -/
section
variable {prog : Program} {w : World} {A : Around} {R : Result → Shared → Prop} {I : Addr} {fp wr : List Addr} {G : Array GenState → Array GenState → Prop} {n : Nat} {P : Nat → Value → Prop} {St : Nat → Shared → Prop}
variable {κ : Type} [DecidableEq κ]
theorem setOf_same {knd : KeyKind prog w κ} {h h' : Heap} {a : Addr} {S : κ → Bool} {m : Nat} (x : h.SetOf knd a S m) (k : ∀ o, h.get? a = some o → h'.get? a = some o) : h'.SetOf knd a S m :=
  match x with
  | ⟨o, es, ep, t, ho, r⟩ => ⟨o, es, ep, t, k o ho, r⟩
theorem fill_keys (knd : KeyKind prog w κ) (walk : WalksS prog w A.in1 I fp wr G n P St) (S : Addr) (out : S ∉ fp) (xs : List κ) (hn : xs.length = n) (room : n + 1 < scanBound)
    (key : ∀ i v, P i v → ∃ x, xs[i]? = some x ∧ knd.is x v = true ∧ v.scannable = true) :
    ∀ (d i : Nat) (s : Shared), i + d = n → St i s → s.heap.SetOf knd S (fun j => decide (j ∈ xs.take i)) (cnt (xs.take i)) →
      (∀ s', Moved (S :: wr) G s s' → s'.heap.SetOf knd S (fun j => decide (j ∈ xs)) (cnt xs) → R (.ok (.ret .none)) s') →
      codeAny (model prog w) A (.builtin "set.update.loop" ⟨[.ref S, .ref I], []⟩) R s
  | 0, i, s, e, st, here, fin => by
    obtain rfl : i = n := by omega
    have full : xs.take i = xs := List.take_of_length_le (by omega)
    rw [full] at here
    apply codeAny_builtin PyProof.Rows.F.entry_set_update_loop
    rw [Around.under_plainId PyProof.Rows.F.plain_set_update_loop _]
    show wpAny _ A.in1 (pyNext (.ref I) >>= _) _ _ s
    apply wpAny_bind
    apply walk.done s _ _ st
    intro s' mv
    exact wpAny_pure (fin s' (mv.mono fun b hb => List.mem_cons_of_mem _ hb) (setOf_same here fun o ho => mv.heap S o (fun q => out (walk.sub _ q)) ho))
  | d + 1, i, s, e, st, here, fin => by
    apply codeAny_builtin PyProof.Rows.F.entry_set_update_loop
    rw [Around.under_plainId PyProof.Rows.F.plain_set_update_loop _]
    show wpAny _ A.in1 (pyNext (.ref I) >>= _) _ _ s
    apply wpAny_bind
    apply walk.item i s _ _ (by omega) st
    intro v s' pv st' mv
    obtain ⟨x, hx, isx, scx⟩ := key i v pv
    have here' := setOf_same (h' := s'.heap) here fun o ho => mv.heap S o (fun q => out (walk.sub _ q)) ho
    show wpAny _ A.in1 (holding [v] (setAdd S v) >>= _) _ _ s'
    apply wpAny_bind
    apply wpAny_holding
    unfold setAdd
    apply wpAny_holding
    apply wpAny_bind
    refine knd.pyHash isx ?_
    have few : cnt (xs.take i) + 1 < scanBound := by
      have h1 := cnt_le (xs.take i)
      have h2 : (xs.take i).length ≤ xs.length := List.length_take_le' _ _
      omega
    refine wpAny_setAddHashed_of (knd := knd) (s := { s' with toks := s'.toks + 1 }) isx scx here' few fun h' but now => ?_
    have step : xs.take (i + 1) = xs.take i ++ [x] := take_one hx
    have now' : h'.SetOf knd S (fun j => decide (j ∈ xs.take (i + 1))) (cnt (xs.take (i + 1))) := by
      have e1 : (fun j => decide (j ∈ xs.take i) || decide (j = x)) = fun j => decide (j ∈ xs.take (i + 1)) := by
        funext j
        rw [step]
        by_cases a : j ∈ xs.take i <;> by_cases b : j = x <;> simp [a, b]
      have e2 : (if decide (x ∈ xs.take i) = true then cnt (xs.take i) else cnt (xs.take i) + 1) = cnt (xs.take (i + 1)) := by
        rw [step, cnt_snoc]
        by_cases a : x ∈ xs.take i <;> simp [a]
      rw [← e1, ← e2]
      exact now
    refine wpAny_pure ⟨plainId_quiet PyProof.Rows.F.plain_set_update_loop _, fill_keys knd walk S out xs hn room key d (i + 1) _ (by omega) (walk.frame _ s' _ _ st' (Nat.le_succ _) fun b hb o ho => ?_) now' fun s'' mv2 last => fin s'' ?_ last⟩
    · rw [but.2 b (fun q : b = S => out (q ▸ hb))]
      exact ho
    · refine Moved.trans walk.gtrans ((mv.mono fun b hb => List.mem_cons_of_mem _ hb).then_heap (Nat.le_succ _) fun b o hb ho => ?_) mv2
      rw [but.2 b (fun q : b = S => hb (q ▸ List.mem_cons_self))]
      exact ho
end
end Rt
end
section
set_option Elab.async false
set_option linter.all false
set_option maxRecDepth 100000
set_option maxHeartbeats 4000000
/-! set(xs) of a few tuples of keys (ints, texts): how many unlike ones there are -/
namespace Rt
open PySem PySem.Spec PyProof.Rows
section
variable {P : Program} {w : World} {κ : Type} [DecidableEq κ]
/-- keys that the small questions of a search answer by themselves -/
structure Mild (knd : KeyKind P w κ) : Prop where
  cls : ∀ k v n, knd.is k v = true → ofAClassStatement n v = pure false
  val : ∀ k v n, knd.is k v = true → ∃ r, hashByValue n v = pure r
variable {knd : KeyKind P w κ}
theorem mixMild : Mild (L2.mixKind P w) where
  cls := fun k v n h => by
    rcases L2.keyIs_shape h with ⟨i, t, rfl, rfl⟩ | ⟨x, t, rfl, rfl⟩ <;> cases n <;> rfl
  val := fun k v n h => by
    rcases L2.keyIs_shape h with ⟨i, t, rfl, rfl⟩ | ⟨x, t, rfl, rfl⟩ <;> cases n <;> exact ⟨_, rfl⟩
theorem items_each {ks : List κ} {vs : List Value} (h : ItemsAre knd ks vs) : ∀ v ∈ vs, ∃ k, knd.is k v = true := by
  induction h with
  | nil => intro v hv; cases hv
  | @cons k0 u ks us one _ more =>
    intro v hv
    cases List.mem_cons.mp hv with
    | inl e => exact ⟨k0, e ▸ one⟩
    | inr m => exact more v m
variable {A : Around} {E : Value → Shared → Prop} {s : Shared}
/-- a loop over a tuple's items that asks each a question with a settled answer -/
theorem ask_each {α : Type} {items : Array Value} {f : Value → α → Sem (ForInStep α)} {z : α} {Q : α → Shared → Prop} (h : ∀ v ∈ items.toList, f v z = pure (.yield z)) (q : Q z s) : wpAny (model P w) A (forIn items z f) Q E s := by
  rw [← Array.forIn_toList]
  refine wpAny_forIn_list _ (fun left r t => r = z ∧ t = s ∧ ∀ v ∈ left, f v z = pure (.yield z)) _ ?_ ?_ _ _ ⟨rfl, rfl, h⟩
  · rintro v left r t ⟨rfl, rfl, all⟩
    rw [all v List.mem_cons_self]
    exact wpAny_pure ⟨rfl, rfl, fun u hu => all u (List.mem_cons_of_mem _ hu)⟩
  · rintro r t ⟨rfl, rfl, _⟩
    exact q
theorem ask_some {α : Type} {items : Array Value} {f : Value → α → Sem (ForInStep α)} {z : α} {D : α → Prop} {Q : α → Shared → Prop} (h : ∀ v ∈ items.toList, f v z = pure (.yield z) ∨ ∃ d, D d ∧ f v z = pure (.done d)) (q : Q z s) (qd : ∀ d, D d → Q d s) :
    wpAny (model P w) A (forIn items z f) Q E s := by
  rw [← Array.forIn_toList]
  refine wpAny_forIn_list _ (fun left r t => r = z ∧ t = s ∧ ∀ v ∈ left, f v z = pure (.yield z) ∨ ∃ d, D d ∧ f v z = pure (.done d)) _ ?_ ?_ _ _ ⟨rfl, rfl, h⟩
  · rintro v left r t ⟨rfl, rfl, all⟩
    rcases all v List.mem_cons_self with e | ⟨d, hd, e⟩
    · rw [e]
      exact wpAny_pure ⟨rfl, rfl, fun u hu => all u (List.mem_cons_of_mem _ hu)⟩
    · rw [e]
      exact wpAny_pure (qd d hd)
  · rintro r t ⟨rfl, rfl, _⟩
    exact q
theorem no_class (M : Mild knd) {k : List κ} {b : Addr} {Q : Bool → Shared → Prop} (t : IsTupleKey knd s.heap k b) (q : Q false s) : wpAny (model P w) A (ofAClassStatement 8 (.ref b)) Q E s := by
  have ty := t.typeIs
  obtain ⟨o, items, n, ho, _, hd, hi⟩ := t
  unfold ofAClassStatement
  apply wpAny_bind
  apply wpAny_typeOf ty
  have yes : (("tuple" : String) == "tuple") = true := by decide
  simp only [yes, if_true, Bool.not_true, Bool.false_eq_true, if_false]
  try (apply wpAny_bind; apply wpAny_pure)
  try simp only [Bool.not_true, Bool.false_eq_true, if_false]
  show wpAny _ _ (seqItems? (.ref b) >>= _) _ _ s
  apply wpAny_bind
  apply wpAny_seqItems ho hd
  dsimp only
  apply wpAny_bind
  refine ask_each (fun v hv => ?_) ?_
  · obtain ⟨k', hk'⟩ := items_each hi v hv
    simp only [M.cls k' v _ hk', pure_bind, Bool.false_eq_true, if_false]
  · exact wpAny_pure q
theorem by_value (M : Mild knd) {k : List κ} {b : Addr} {Q : Bool → Shared → Prop} (t : IsTupleKey knd s.heap k b) (q : ∀ r, Q r s) : wpAny (model P w) A (hashByValue 8 (.ref b)) Q E s := by
  have ty := t.typeIs
  obtain ⟨o, items, n, ho, _, hd, hi⟩ := t
  unfold hashByValue
  apply wpAny_bind
  apply wpAny_specialOf ty F.slot_tuple_hash.lookup
  show wpAny _ _ (seqItems? (.ref b) >>= _) _ _ s
  apply wpAny_bind
  apply wpAny_seqItems ho hd
  apply wpAny_bind
  refine ask_some (D := fun d => ∃ r, d.1 = some r) (fun v hv => ?_) ?_ (fun d hd => ?_)
  · obtain ⟨k', hk'⟩ := items_each hi v hv
    obtain ⟨r, e⟩ := M.val k' v 7 hk'
    rw [e]
    cases r with
    | true => exact .inl rfl
    | false => exact .inr ⟨_, ⟨false, rfl⟩, rfl⟩
  · exact wpAny_pure (q true)
  · obtain ⟨d1, d2⟩ := d
    obtain ⟨r, e⟩ := hd
    simp only at e
    subst e
    exact wpAny_pure (q r)

/-! ### the set -/
abbrev th (knd : KeyKind P w κ) (k : List κ) : Int := tupleKeyHash knd k
def rws (knd : KeyKind P w κ) (L : List (Addr × List κ)) : List (Int × Value) := L.map fun p => (th knd p.2, Value.ref p.1)
/-- up to four tuples in the least table -/
structure TSet (knd : KeyKind P w κ) (h : Heap) (a : Addr) (L : List (Addr × List κ)) (es : Array (Int × Value)) (ep : Nat) (t : SetTable) : Prop where
  ob : ∃ o, h.get? a = some o ∧ o.ExactSet ∧ o.data = .set es ep t
  rw_ : es.toList = rws knd L
  tb : L2.TabOk t (L.map fun p => th knd p.2)
  one : (L.map (·.2)).Nodup
  at_ : ∀ p ∈ L, IsTupleKey knd h p.2 p.1
  mask : t.mask = 7
  few : L.length ≤ 4
variable {a : Addr} {L : List (Addr × List κ)} {es : Array (Int × Value)} {ep : Nat} {t : SetTable}
theorem TSet.size {h : Heap} (R : TSet knd h a L es ep t) : es.size = L.length := by
  have q := congrArg List.length R.rw_
  simpa [rws] using q
theorem TSet.fits {h : Heap} (R : TSet knd h a L es ep t) : t.fits es.size = true := by
  have z := R.tb.sz
  have few := R.few
  have m := R.mask
  rw [List.length_map] at z
  unfold SetTable.fits SetTable.fill
  rw [R.tb.dm, Bool.and_eq_true, beq_iff_eq, decide_eq_true_eq, R.size]
  exact ⟨z, by rw [z, m]; simp; omega⟩
theorem TSet.row {h : Heap} (R : TSet knd h a L es ep t) {i : Nat} {p : Addr × List κ} (e : L[i]? = some p) : es[i]? = some (th knd p.2, Value.ref p.1) := by
  rw [← Array.getElem?_toList, R.rw_, rws, List.getElem?_map, e]
  rfl
/-- the way's places -/
abbrev stp (m : Nat) (h : Int) (c : Nat) : SetTable.Probe := L2.nth m (L2.runAt m (SetTable.bits h % (m + 1)) (SetTable.bits h)) c
theorem nth_clean (m : Nat) : ∀ (n : Nat) (p : SetTable.Probe), p.dummy = none → (L2.nth m p n).dummy = none
  | 0, p, e => e
  | n + 1, p, e => nth_clean m n (L2.adv m p) (by unfold L2.adv; split <;> exact e)
theorem stp_more (m : Nat) (h : Int) (c q : Nat) : L2.nth m (stp m h c) q = stp m h (c + q) := (L2.nth_add m c _ q).symm
theorem stp_j (m : Nat) (h : Int) (c q : Nat) : (L2.nth m (stp m h c) q).j = L2.way m h (c + q) := congrArg SetTable.Probe.j (stp_more m h c q)
/-- a search among them shows nothing of the table -/
theorem quiet_search (M : Mild knd) {k : List κ} {b : Addr} {Q : Bool → Shared → Prop} (hk : IsTupleKey knd s.heap k b) {ys : List Value} (hy : ∀ y ∈ ys, ∃ k' c, y = Value.ref c ∧ IsTupleKey knd s.heap k' c) (q : Q false s) :
    wpAny (model P w) A (searchCouldBeSeen (.ref b) ys) Q E s := by
  unfold searchCouldBeSeen
  apply wpAny_bind
  refine wpAny_forIn_list _ (fun left r t => r.1 = none ∧ t = s ∧ ∀ y ∈ left, ∃ k' c, y = Value.ref c ∧ IsTupleKey knd s.heap k' c) _ ?_ ?_ _ _ ⟨rfl, rfl, hy⟩
  · rintro v left r t ⟨none_, rfl, all⟩
    obtain ⟨k', c, rfl, hc⟩ := all v List.mem_cons_self
    have others : ∀ y ∈ left, ∃ k' c, y = Value.ref c ∧ IsTupleKey knd t.heap k' c := fun u hu => all u (List.mem_cons_of_mem _ hu)
    dsimp only
    rcases Classical.em ((b == c || (carriedByValue (.ref b) && carriedByValue (.ref c))) = true) with plain | other
    · exact L2.wp_if_pos plain (wpAny_pure ⟨rfl, rfl, others⟩)
    · apply L2.wp_if_neg other
      apply wpAny_bind
      apply wpAny_eqIsQuiet_tuple hk
      simp only [Bool.not_true, Bool.false_eq_true, if_false]
      apply wpAny_bind
      apply wpAny_eqIsQuiet_tuple hc
      simp only [Bool.not_true, Bool.false_eq_true, if_false]
      apply wpAny_bind
      apply no_class M hk
      simp only [Bool.false_eq_true, if_false]
      apply wpAny_bind
      apply no_class M hc
      simp only [Bool.false_eq_true, if_false]
      exact wpAny_pure ⟨rfl, rfl, others⟩
  · rintro ⟨r1, r2⟩ t ⟨none_, rfl, _⟩
    simp only at none_
    subst none_
    exact wpAny_pure q
end
end Rt
end
section
set_option Elab.async false
set_option linter.all false
set_option maxRecDepth 100000
set_option maxHeartbeats 4000000
/-! the search of a tuple in the set, and its adding -/
namespace Rt
open PySem PySem.Spec PyProof.Rows
section
variable {P : Program} {w : World} {κ : Type} [DecidableEq κ] {knd : KeyKind P w κ} {A : Around} {E : Value → Shared → Prop} {s : Shared}
variable {a : Addr} {L : List (Addr × List κ)} {es : Array (Int × Value)} {ep : Nat} {t : SetTable}
/-- f turns are left, the c-th place of the way is the next one; K is the first empty one -/
theorem find_from (M : Mild knd) (R : TSet knd s.heap a L es ep t) {x : Addr} {k : List κ} (hx : IsTupleKey knd s.heap k x) (hu : A.units < cLine) {K : Nat} (kf : K < 10 * SetTable.turns t.mask)
    (gap : L2.way t.mask (th knd k) K ∉ t.place.toList) (full : ∀ c, c < K → L2.way t.mask (th knd k) c ∈ t.place.toList) {Q : SetFound → Shared → Prop}
    (yes : k ∈ L.map (·.2) → Q (.there none) s) (no : k ∉ L.map (·.2) → Q (.free (L2.way t.mask (th knd k) K) false) s) :
    ∀ (f c : Nat) (stand : Option SetTable.Probe), stand.getD (t.probeStart (th knd k)) = stp t.mask (th knd k) c → c ≤ K → K - c < f →
      (∀ (i : Nat) p, L[i]? = some p → p.2 = k → ∃ d, c ≤ d ∧ d < K ∧ t.place.toList[i]? = some (L2.way t.mask (th knd k) d)) →
      wpAny (model P w) A (setSearchFrom a (.ref x) (th knd k) true f stand) Q E s := by
  obtain ⟨o, ho, hex, hd⟩ := R.ob
  have fit := R.fits
  intro f
  induction f with
  | zero => intro c stand _ _ hf _; omega
  | succ f ih =>
    intro c stand hst hc hf here
    have hashAt : ∀ (i : Nat) p, L[i]? = some p → ((es[i]?.map (·.1)).getD 0) = th knd p.2 := fun i p hp => by rw [R.row hp]; rfl
    have look := L2.go_spec t R.tb.ris R.tb.dm (fun i => (es[i]?.map (·.1)).getD 0) (th knd k) (10 * SetTable.turns t.mask) (K - c) (stp t.mask (th knd k) c) (nth_clean _ c _ rfl) (by omega)
      (fun q hq => by rw [stp_j]; exact full _ (by omega)) (by rw [stp_j, show c + (K - c) = K by omega]; exact gap)
    have start : t.probe (fun i => (es[i]?.map (·.1)).getD 0) (th knd k) (stand.getD (t.probeStart (th knd k))) = SetTable.probe.go t (fun i => (es[i]?.map (·.1)).getD 0) (th knd k) (10 * SetTable.turns t.mask) (stp t.mask (th knd k) c) := by
      rw [hst]
      rfl
    rw [L2.setSearchFrom_succ]
    apply wpAny_bind
    apply wpAny_setState_of ho hd fit
    dsimp only
    have steady : ¬ t.gaveWay = true := by
      unfold SetTable.gaveWay
      rw [R.mask]
      decide
    apply L2.wp_if_neg steady
    try (apply wpAny_bind; apply wpAny_pure)
    rcases look with ⟨q, i, hq, hi, same, before, found⟩ | ⟨none_, found⟩
    · rw [start, found, stp_j]
      rw [stp_j] at hi
      dsimp only
      have il : i < L.length := by
        have h1 : i < t.place.toList.length := (List.getElem?_eq_some_iff.mp hi).1
        have h2 := R.tb.sz
        rw [List.length_map] at h2
        rw [Array.length_toList] at h1
        omega
      obtain ⟨p, hp⟩ : ∃ p, L[i]? = some p := ⟨_, List.getElem?_eq_getElem il⟩
      have pL : p ∈ L := List.mem_of_getElem? hp
      have on : wpAny (model P w) A (L2.searchRest a (.ref x) (th knd k) true f es t (L2.way t.mask (th knd k) (c + q)) i (L2.nth t.mask (stp t.mask (th knd k) c) (q + 1))) Q E s := by
        unfold L2.searchRest
        rw [R.row hp]
        dsimp only
        apply wpAny_bind
        apply wpAny_holding
        apply wpAny_eqBool_tuple hu (R.at_ p pL) hx
        apply wpAny_bind
        apply wpAny_setState_of ho hd fit
        dsimp only
        by_cases eq : p.2 = k
        · apply L2.wp_if_pos (by simp [eq])
          exact wpAny_pure (yes (List.mem_map.mpr ⟨p, pL, eq⟩))
        · apply L2.wp_if_neg (by simp [eq])
          try (apply wpAny_bind; apply wpAny_pure)
          rw [L2.sameMem]
          dsimp only
          have live : t.slot (L2.way t.mask (th knd k) (c + q)) = .live i := L2.slot_live R.tb.ris hi
          simp only [if_true, live, R.row hp]
          apply wpAny_bind
          apply wpAny_isSame_ref_self
          apply wpAny_bind
          apply wpAny_pure
          simp only [if_true]
          apply L2.wp_if_neg (by simp [eq])
          refine ih (c + (q + 1)) _ (stp_more _ _ _ _) (by omega) (by omega) fun j r hr er => ?_
          obtain ⟨d, d1, d2, d3⟩ := here j r hr er
          refine ⟨d, ?_, d2, d3⟩
          have cmp := Nat.lt_trichotomy d (c + q)
          rcases cmp with lt | same_ | gt
          · exact absurd ((hashAt j r hr).trans (congrArg (th knd) er)) (before (d - c) j (by omega) (by rw [stp_j, show c + (d - c) = d by omega]; exact d3))
          · rw [same_] at d3
            have other := L2.slot_live R.tb.ris d3
            rw [live] at other
            injection other with ij
            rw [← ij, hp] at hr
            exact absurd ((congrArg Prod.snd (Option.some.inj hr)).trans er) eq
          · omega
      rcases Classical.em (t.led = true) with led | unled
      · apply L2.wp_if_neg (by simp [led])
        try (apply wpAny_bind; apply wpAny_pure)
        exact on
      · apply L2.wp_if_pos (by simp [unled])
        apply wpAny_bind
        refine quiet_search M hx (fun y hy => ?_) ?_
        · obtain ⟨e, he, ey⟩ := List.mem_map.mp hy
          have he' : e ∈ es ∧ e.1 = th knd k := by simpa using he
          have hl : e ∈ es.toList := by simpa using he'.1
          rw [R.rw_] at hl
          obtain ⟨r, hr, er⟩ := List.mem_map.mp hl
          exact ⟨r.2, r.1, by rw [← ey, ← er], R.at_ r hr⟩
        · apply L2.wp_if_neg (by decide)
          try (apply wpAny_bind; apply wpAny_pure)
          exact on
    · rw [start, found, stp_j, show c + (K - c) = K by omega]
      dsimp only
      refine wpAny_pure (no fun hm => ?_)
      obtain ⟨r, hr, er⟩ := List.mem_map.mp hm
      obtain ⟨j, hj, ej⟩ := List.getElem_of_mem hr
      have hr' : L[j]? = some r := by rw [List.getElem?_eq_getElem hj, ej]
      obtain ⟨d, d1, d2, d3⟩ := here j r hr' er
      exact none_ (d - c) j (by omega) (by rw [stp_j, show c + (d - c) = d by omega]; exact d3) ((hashAt j r hr').trans (congrArg (th knd) er))
theorem find_it (M : Mild knd) (R : TSet knd s.heap a L es ep t) {x : Addr} {k : List κ} (hx : IsTupleKey knd s.heap k x) (hu : A.units < cLine) {Q : SetFound → Shared → Prop} (yes : k ∈ L.map (·.2) → Q (.there none) s)
    (no : ∀ K, k ∉ L.map (·.2) → L2.way t.mask (th knd k) K ∉ t.place.toList → (∀ c, c < K → L2.way t.mask (th knd k) c ∈ t.place.toList) → Q (.free (L2.way t.mask (th knd k) K) false) s) :
    wpAny (model P w) A (setSearch a (.ref x) (th knd k) true) Q E s := by
  have few := R.few
  obtain ⟨K, kf, gap, full⟩ := R.tb.first (by rw [List.length_map, R.mask]; omega) (th knd k)
  have small : K < 100000 := by
    have m := R.mask
    unfold SetTable.turns at kf
    rw [m] at kf
    omega
  unfold setSearch
  refine find_from M R hx hu kf gap full yes (fun n => no K n gap full) 100000 0 none rfl (Nat.zero_le _) (by omega) fun i p hp ep => ?_
  have ih : (L.map fun p => th knd p.2)[i]? = some (th knd k) := by rw [List.getElem?_map, hp, ← ep]; rfl
  have il : i < t.place.toList.length := by
    have h1 : i < L.length := (List.getElem?_eq_some_iff.mp hp).1
    have h2 := R.tb.sz
    rw [List.length_map] at h2
    rw [Array.length_toList]
    omega
  obtain ⟨d, d1, d2⟩ := R.tb.before gap ih (List.getElem?_eq_getElem il)
  exact ⟨d, Nat.zero_le _, d1, by rw [List.getElem?_eq_getElem il, d2]⟩

theorem tup_stays {h h' : Heap} {k : List κ} {b : Addr} {o : Obj} (hb : IsTupleKey knd h k b) (ho : h.get? a = some o) (hd : o.data = .set es ep t) (sb : Heap.SameBut a h h') : IsTupleKey knd h' k b := by
  obtain ⟨u, items, n, hu, hc, hdu, hi⟩ := hb
  refine ⟨u, items, n, (sb.2 b fun e => ?_).trans hu, hc, hdu, hi⟩
  rw [e, ho] at hu
  rw [← Option.some.inj hu, hd] at hdu
  cases hdu
theorem mid_perm {α : Type} (L : List α) (p : Nat) (x : α) : (L.take p ++ x :: L.drop p).Perm (x :: L) := by
  refine List.perm_middle.trans ?_
  rw [List.take_append_drop]
/-- a tuple is added: it was there, or it is there now -/
theorem add_it (M : Mild knd) (R : TSet knd s.heap a L es ep t) {x : Addr} {k : List κ} (hx : IsTupleKey knd s.heap k x) (hu : A.units < cLine) (few : L.length + 1 ≤ 4) {Q : Bool → Shared → Prop}
    (fin : ∀ r h' L' es' ep' t', Heap.SameBut a s.heap h' → TSet knd h' a L' es' ep' t' → (k ∈ L.map (·.2) → L' = L) → (k ∉ L.map (·.2) → L'.Perm ((x, k) :: L)) → Q r { s with heap := h' }) :
    wpAny (model P w) A (setAddHashed a (.ref x) (th knd k)) Q E s := by
  obtain ⟨o, ho, hex, hd⟩ := R.ob
  have sz := R.size
  unfold setAddHashed
  apply wpAny_holding
  rw [show (100000 : Nat) = 99999 + 1 from rfl, L2.setAddHashedIn_succ]
  apply wpAny_bind
  apply wpAny_setState_of ho hd R.fits
  dsimp only
  apply L2.wp_if_neg (by simp [byScan, Value.scannable])
  try (apply wpAny_bind; apply wpAny_pure)
  apply wpAny_bind
  refine find_it M R hx hu (fun hm => ?_) fun K hm gap full => ?_
  · dsimp only
    exact wpAny_pure (fin false s.heap L es ep t (Heap.SameBut.refl a s.heap) R (fun _ => rfl) fun z => absurd hm z)
  · dsimp only
    apply wpAny_bind
    apply wpAny_setState_of ho hd R.fits
    dsimp only
    obtain ⟨q1, q2, q3, q4, q5, q6, q7, q8, q9⟩ := R.tb.put gap full
    generalize t.put (L2.way t.mask (th knd k) K) = pt at q1 q3 q4 q5 q6 q7 q8 q9 ⊢
    obtain ⟨t1, p⟩ := pt
    dsimp only at q1 q3 q4 q5 q6 q7 q8 q9 ⊢
    subst q1
    generalize SetTable.below t.place (L2.way t.mask (th knd k) K) = p at q2 q3 ⊢
    have mask1 : t1.mask = 7 := q4.trans R.mask
    have rows1 : (SetTable.insertAt es p (th knd k, Value.ref x)).toList = rws knd (L.take p ++ (x, k) :: L.drop p) := by
      rw [SetTable.toList_insertAt, R.rw_]
      simp [rws, List.map_take, List.map_drop]
    have pm := mid_perm L p (x, k)
    have hs1 : (L.take p ++ (x, k) :: L.drop p).map (fun p => th knd p.2) = (L.map fun p => th knd p.2).take p ++ th knd k :: (L.map fun p => th knd p.2).drop p := by simp [List.map_take, List.map_drop]
    rw [← hs1] at q3
    have one1 : ((L.take p ++ (x, k) :: L.drop p).map (·.2)).Nodup := (pm.map (·.2)).nodup_iff.mpr (List.nodup_cons.mpr ⟨hm, R.one⟩)
    have len1 : (L.take p ++ (x, k) :: L.drop p).length = L.length + 1 := pm.length_eq
    have es1 : (SetTable.insertAt es p (th knd k, Value.ref x)).size = L.length + 1 := by
      have q := congrArg List.length rows1
      rw [Array.length_toList] at q
      rw [q, rws, List.length_map, len1]
    generalize SetTable.insertAt es p (th knd k, Value.ref x) = E1 at rows1 es1 ⊢
    generalize L.take p ++ (x, k) :: L.drop p = L1 at pm len1 q3 one1 rows1
    -- what is stored in the end, for either answer of by-value
    have last : ∀ r : Bool, wpAny (model P w) A (do
        storeSet a E1 (if r = true then t1 else { t1 with plain := false })
        if (!false && (if r = true then t1 else { t1 with plain := false }).tooFull) = true then do { setRelay a (SetTable.grown (es.size + 1)); pure true } else pure true) Q E s := fun r => by
      have nf : (if r then t1 else { t1 with plain := false }).tooFull = false := by
        have z : (if r then t1 else { t1 with plain := false }).tooFull = t1.tooFull := by cases r <;> rfl
        rw [z]
        unfold SetTable.tooFull
        rw [q9, mask1, List.length_map]
        exact decide_eq_false (by omega)
      have tb1 : L2.TabOk (if r then t1 else { t1 with plain := false }) (L1.map fun p => th knd p.2) := by
        cases r with
        | true => exact q3
        | false => exact ⟨q3.ris, q3.dm, q3.sz, q3.mok, q3.bd, q3.reach⟩
      have mk1 : (if r then t1 else { t1 with plain := false }).mask = 7 := by cases r <;> exact mask1
      generalize (if r then t1 else { t1 with plain := false }) = t2 at nf tb1 mk1 ⊢
      apply wpAny_bind
      refine wpAny_storeSet_of ho hd ?_ (by rw [es1, sizeLine_eq]; omega)
      have sb : Heap.SameBut a s.heap (s.heap.update a (Obj.putSet E1 t2)) := Heap.SameBut.update ..
      have at1 := L2.store_at (es' := E1) (t' := t2) ho hd
      generalize s.heap.update a (Obj.putSet E1 t2) = h1 at sb at1 ⊢
      rw [nf]
      have tups : ∀ p ∈ L1, IsTupleKey knd h1 p.2 p.1 := fun r hr => by
        rcases List.mem_cons.mp (pm.mem_iff.mp hr) with e | hr
        · rw [e]
          exact tup_stays hx ho hd sb
        · exact tup_stays (R.at_ r hr) ho hd sb
      have done := fin true h1 L1 E1 (ep + 1) t2 sb ⟨⟨_, at1, ⟨hex.1, hex.2.1, hex.2.2⟩, rfl⟩, rows1, tb1, one1, tups, mk1, by rw [len1]; exact few⟩ (fun z => absurd z hm) fun _ => pm
      simp only [Bool.not_false, Bool.and_false, Bool.false_eq_true, if_false]
      try (apply wpAny_bind; apply wpAny_pure)
      exact wpAny_pure done
    rcases Classical.em (t1.plain = true) with pl | pl
    · first
        | exact L2.wp_if_pos pl (wpAny_bind (by_value M hx fun r => last r))
        | (apply wpAny_bind; apply L2.wp_if_pos pl; exact by_value M hx fun r => last r)
    · first
        | exact L2.wp_if_neg pl (by first | exact last true | exact wpAny_bind (wpAny_pure (last true)))
        | (apply wpAny_bind; apply L2.wp_if_neg pl; exact wpAny_pure (last true))
end
end Rt
end
section
set_option Elab.async false
set_option linter.all false
set_option maxRecDepth 100000
set_option maxHeartbeats 4000000
/-! set(xs) and len of it, as rules of the layer; sorted(set(xs)) of ints -/
namespace Rt
open PySem PySem.Spec PyProof.Rows
section
variable {P : Program} {w : World} {κ : Type} [DecidableEq κ] {knd : KeyKind P w κ}
structure TIn (knd : KeyKind P w κ) (S : Addr) (ks : List (Addr × List κ)) (i : Nat) (h : Heap) : Prop where
  ex : ∃ L es ep t, TSet knd h S L es ep t ∧ (∀ k, k ∈ L.map (·.2) ↔ k ∈ (ks.take i).map (·.2)) ∧ L.length = cnt ((ks.take i).map (·.2)) ∧ ∀ p ∈ L, p ∈ ks
abbrev Keeps (h h' : Heap) : Prop := ∀ b o, h.get? b = some o → h'.get? b = some o
theorem tup_keep {h h' : Heap} {k : List κ} {b : Addr} (hb : IsTupleKey knd h k b) (kp : Keeps h h') : IsTupleKey knd h' k b := by
  obtain ⟨u, items, n, hu, r⟩ := hb
  exact ⟨u, items, n, kp _ _ hu, r⟩
theorem TSet.over {h h' : Heap} {a : Addr} {L : List (Addr × List κ)} {es : Array (Int × Value)} {ep : Nat} {t : SetTable} (R : TSet knd h a L es ep t) (ha : ∀ o, h.get? a = some o → h'.get? a = some o) (ht : ∀ p ∈ L, IsTupleKey knd h' p.2 p.1) : TSet knd h' a L es ep t := by
  obtain ⟨o, ho, r⟩ := R.ob
  exact ⟨⟨o, ha o ho, r⟩, R.rw_, R.tb, R.one, ht, R.mask, R.few⟩
variable {A : Around} {R : Result → Shared → Prop} {I : Addr} {fp wr : List Addr} {G : Array GenState → Array GenState → Prop} {n : Nat} {Pv : Nat → Value → Prop} {St : Nat → Shared → Prop}
theorem fill_tups (M : Mild knd) (walk : WalksS P w A.in1 I fp wr G n Pv St) (S : Addr) (out : S ∉ fp) (ks : List (Addr × List κ)) (hn : ks.length = n) (few : n ≤ 4) (val : ∀ i v, Pv i v → ∃ p, ks[i]? = some p ∧ v = .ref p.1)
    (h0 : Heap) (hk : ∀ p ∈ ks, IsTupleKey knd h0 p.2 p.1) (S0 : h0.get? S = none) (w0 : ∀ b ∈ wr, h0.get? b = none) (hu : A.in1.units < cLine) :
    ∀ (d i : Nat) (s : Shared), i + d = n → St i s → Keeps h0 s.heap → TIn knd S ks i s.heap → (∀ s', Moved (S :: wr) G s s' → TIn knd S ks n s'.heap → R (.ok (.ret .none)) s') →
      codeAny (model P w) A (.builtin "set.update.loop" ⟨[.ref S, .ref I], []⟩) R s := by
  have mkeep : ∀ {s s' : Shared}, Moved wr G s s' → Keeps h0 s.heap → Keeps h0 s'.heap := fun mv kp b o e => mv.heap b o (fun hb => by rw [w0 b hb] at e; cases e) (kp b o e)
  have carry : ∀ {s s' : Shared} {i : Nat}, Moved wr G s s' → Keeps h0 s'.heap → TIn knd S ks i s.heap → TIn knd S ks i s'.heap := fun mv kp ⟨L, es, ep, t, T, z1, z2, z3⟩ =>
    ⟨L, es, ep, t, T.over (fun o ho => mv.heap S o (fun q => out (walk.sub _ q)) ho) fun p hp => tup_keep (hk p (z3 p hp)) kp, z1, z2, z3⟩
  intro d
  induction d with
  | zero =>
    intro i s e st kp here fin
    obtain rfl : i = n := by omega
    apply codeAny_builtin F.entry_set_update_loop
    rw [Around.under_plainId F.plain_set_update_loop _]
    show wpAny _ A.in1 (pyNext (.ref I) >>= _) _ _ s
    apply wpAny_bind
    apply walk.done s _ _ st
    intro s' mv
    exact wpAny_pure (fin s' (mv.mono fun b hb => List.mem_cons_of_mem _ hb) (carry mv (mkeep mv kp) here))
  | succ d ih =>
    intro i s e st kp here fin
    apply codeAny_builtin F.entry_set_update_loop
    rw [Around.under_plainId F.plain_set_update_loop _]
    show wpAny _ A.in1 (pyNext (.ref I) >>= _) _ _ s
    apply wpAny_bind
    apply walk.item i s _ _ (by omega) st
    intro v s' pv st' mv
    obtain ⟨p, hp, rfl⟩ := val i v pv
    have kp' := mkeep mv kp
    obtain ⟨L, es, ep, t, T, z1, z2, z3⟩ := carry mv kp' here
    have hx : IsTupleKey knd s'.heap p.2 p.1 := tup_keep (hk p (List.mem_of_getElem? hp)) kp'
    show wpAny _ A.in1 (holding [Value.ref p.1] (setAdd S (.ref p.1)) >>= _) _ _ s'
    apply wpAny_bind
    apply wpAny_holding
    unfold setAdd
    apply wpAny_holding
    apply wpAny_bind
    apply wpAny_pyHash_tuple hu hx
    have il : i < ks.length := (List.getElem?_eq_some_iff.mp hp).1
    have room : L.length + 1 ≤ 4 := by
      have q := cnt_le ((ks.take i).map (·.2))
      rw [List.length_map] at q
      have q2 : (ks.take i).length ≤ i := List.length_take_le _ _
      omega
    refine add_it (s := { s' with toks := s'.toks + (p.2.length + 1) }) M T hx hu room fun r h' L' es' ep' t' sb T' same more => ?_
    have kp2 : Keeps h0 h' := fun b o e => (sb.2 b fun z => by rw [z, S0] at e; cases e).trans (kp' b o e)
    have step : (ks.take (i + 1)).map (·.2) = (ks.take i).map (·.2) ++ [p.2] := map_one _ hp
    have here' : TIn knd S ks (i + 1) h' := by
      refine ⟨L', es', ep', t', T', ?_⟩
      rw [step, cnt_snoc]
      by_cases m : p.2 ∈ L.map (·.2)
      · rw [same m]
        have m' := (z1 _).mp m
        refine ⟨fun k => ?_, by rw [if_pos m']; exact z2, z3⟩
        rw [z1 k, List.mem_append, List.mem_singleton]
        constructor
        · exact .inl
        · rintro (q | q)
          · exact q
          · rw [q]; exact m'
      · have m' : p.2 ∉ (ks.take i).map (·.2) := fun q => m ((z1 _).mpr q)
        have pm := more m
        refine ⟨fun k => ?_, by rw [if_neg m', pm.length_eq, List.length_cons, z2], fun r hr => ?_⟩
        · rw [(pm.map (·.2)).mem_iff, List.map_cons, List.mem_cons, z1 k, List.mem_append, List.mem_singleton]
          exact Or.comm
        · rcases List.mem_cons.mp (pm.mem_iff.mp hr) with q | q
          · rw [q]; exact List.mem_of_getElem? hp
          · exact z3 r q
    refine wpAny_pure ⟨plainId_quiet F.plain_set_update_loop _, ih (i + 1) _ (by omega) (walk.frame _ s' _ _ st' (Nat.le_add_right _ _) fun b hb o ho => ?_) kp2 here' fun s'' mv2 last => fin s'' ?_ last⟩
    · rw [sb.2 b (fun q : b = S => out (q ▸ hb))]
      exact ho
    · refine Moved.trans walk.gtrans ((mv.mono fun b hb => List.mem_cons_of_mem _ hb).then_heap (Nat.le_add_right _ _) fun b o hb ho => ?_) mv2
      rw [sb.2 b (fun q : b = S => hb (q ▸ List.mem_cons_self))]
      exact ho
end
end Rt
namespace Rt
open PySem PySem.Spec PyProof.Rows L2
/-- a set of n members -/
def SetN (a : Addr) (n : Nat) : HO := .ext fun h => ∃ o es ep t, h.get? a = some o ∧ o.ExactSet ∧ o.data = .set es ep t ∧ t.fits es.size = true ∧ es.size = n
theorem setN_ok {P : Program} {w : World} {H : Hp} {h : Heap} {a : Addr} {n : Nat} (q : ∃ o es ep t, h.get? a = some o ∧ o.ExactSet ∧ o.data = .set es ep t ∧ t.fits es.size = true ∧ es.size = n) : ObjOk P w H h a (SetN a n) := by
  have ⟨o, es, ep, t, ho, r⟩ := q
  exact ⟨q, ⟨o, ho⟩, fun h1 h2 z k => let ⟨o', es', ep', t', ho', r'⟩ := z; ⟨o', es', ep', t', k o' ho', r'⟩⟩
section
variable {X : Cx}
theorem call_lenN : CallR X (.builtin "len") (fun xs H Q => ∃ a n, xs = [V.ref a] ∧ H a = some (SetN a n) ∧ n ≤ 1000 ∧ Q (.int (n : Nat)) H) := by
  intro pins s σ H xs us Q I r h
  obtain ⟨a, n, rfl, ha, hn, q⟩ := h
  rw [Vals.ref1 r]
  obtain ⟨o, es, ep, t, ho, hex, hd, hf, hz⟩ := (show ∃ o es ep t, s.heap.get? a = some o ∧ o.ExactSet ∧ o.data = .set es ep t ∧ t.fits es.size = true ∧ es.size = n from (I.hok a _ ha).1)
  refine call_len_set ho hex hd hf (by rw [hz]; omega) ⟨.int (n : Nat), H, I.tok _, ⟨_, by rw [hz]⟩, q⟩
theorem fresh_set {prog : Program} {w : World} {κ : Type} [DecidableEq κ] {knd : PySem.KeyKind prog w κ} {h : Heap} {a : Addr} {led : Bool} {xs : List κ} (ha : h.get? a = some { cls := .type "set", dict := none, data := .set #[] 0 (.fresh 0 0 led) }) :
    h.SetOf knd a (fun j => decide (j ∈ xs.take 0)) (cnt (xs.take 0)) := by
  have q := (PyProof.Rows.setObjOf_fresh (knd := knd) led).setOf ha (by unfold scanBound; omega)
  have e : (fun j => decide (j ∈ xs.take 0)) = fun _ : κ => false := by
    funext j
    simp
  rw [e]
  exact q
def memb {κ : Type} [DecidableEq κ] (ks : List κ) (j : κ) : Bool := decide (j ∈ ks)
/-- set(xs), xs a list or a tuple of ints and texts -/
theorem call_setK (hc : X.calm = true) : CallR X (.type "set") (fun xs H Q => ∃ l, ∃ ks : List Key, xs = [V.ref l] ∧ (SqL X.K H l (ks.map kV) ∨ SqT X.K H l (ks.map kV)) ∧ ks.length ≤ 60 ∧ ∀ p, H p = none → Q (.ref p) (upd H p (SetN p (cnt ks)))) := by
  intro pins s σ H xs us Q I r h
  obtain ⟨l, ks, rfl, hl, hz, q⟩ := h
  rw [Vals.ref1 r]
  have key : ∀ {its : List Value}, Vals (ks.map kV) its → ∀ (i : Nat) (v : Value), its.toArray[i]? = some v → ∃ x, ks[i]? = some x ∧ (mixKind X.prog X.w).is x v = true ∧ v.scannable = true := fun {its} rv i v hv => by
    have hv' : its[i]? = some v := by simpa using hv
    cases hx : ks[i]? with
    | none =>
      have : (ks.map kV)[i]? = none := by rw [List.getElem?_map, hx]; rfl
      rw [rv.none_of this] at hv'
      cases hv'
    | some x =>
      obtain ⟨u, hu, ru⟩ := rv.get (i := i) (x := kV x) (by rw [List.getElem?_map, hx]; rfl)
      rw [hv'] at hu
      cases hu
      exact ⟨x, rfl, kV_is ru, key_scan ru⟩
  have fin : ∀ (h' : Heap) (tk : Nat), h'.SetOf (mixKind X.prog X.w) s.heap.objs.size (memb ks) (cnt ks) → (∀ b o, s.heap.get? b = some o → h'.get? b = some o) → EP X pins σ Q (.ref s.heap.objs.size) { s with heap := h', toks := tk } := fun h' tk S kp => by
    obtain ⟨o, es, ep, t, ho, hex, hd, _, _, _, hf, hn⟩ := S
    exact ⟨.ref s.heap.objs.size, _, I.laid (t' := tk) kp (Nat.le_refl _) (setN_ok ⟨o, es, ep, t, ho, hex, hd, hf, hn⟩), rfl, q _ (I.hok.fresh (Nat.le_refl _))⟩
  have two : ∀ led, (s.heap.push { cls := .type "set", dict := none, data := .set #[] 0 (.fresh 0 0 led) }).objs.size = s.heap.objs.size + 1 := fun led => Heap.size_push ..
  rcases hl with hl | hl
  · obtain ⟨its, rv, pl, hz'⟩ := I.list hl
    have lt : l < s.heap.objs.size := by
      obtain ⟨o, ho, _⟩ := pl.isList
      exact Heap.lt_size ho
    refine set_list (I.ok.hd hc) pl.isList (T := fun h' => h'.SetOf (mixKind X.prog X.w) s.heap.objs.size (memb ks) (cnt ks)) (fun led _ B R calm un k => ?_) fin
    have at0 : (setAhead X.w led s.heap "list_iterator" l).get? s.heap.objs.size = some { cls := .type "set", dict := none, data := .set #[] 0 (.fresh 0 0 led) } := Heap.get?_push_of_some _ (Heap.get?_push_size _ rfl)
    have at1 : (setAhead X.w led s.heap "list_iterator" l).get? (s.heap.objs.size + 1) = some { cls := .type "list_iterator", data := .fields #[.ref l, .int 0 0] } := by
      rw [← two led]
      exact Heap.get?_push_size _ rfl
    have ls : ks.length = its.toArray.size := by
      have := rv.length
      rw [List.length_map] at this
      simpa using this
    refine fill_keys (mixKind X.prog X.w) (Walks.list calm (s.heap.objs.size + 1) l (Nat.ne_of_lt (Nat.lt_succ_of_lt lt)) its.toArray).toS s.heap.objs.size (by
      simp only [List.mem_cons, List.not_mem_nil, or_false, not_or]
      exact ⟨Nat.ne_of_lt (Nat.lt_succ_self _), Nat.ne_of_gt lt⟩) ks ls (by rw [← ls]; unfold scanBound; omega) (key rv) its.toArray.size 0 _ (by omega) ⟨⟨_, at1, rfl, rfl⟩, (pl.isList.push _).push _⟩ (fresh_set at0) fun s' mv S => k s' mv S
  · obtain ⟨its, rv, pl, hz'⟩ := I.tuple hl
    have lt : l < s.heap.objs.size := by
      obtain ⟨o, ho, _⟩ := pl
      exact Heap.lt_size ho
    refine set_tuple (I.ok.hd hc) pl (T := fun h' => h'.SetOf (mixKind X.prog X.w) s.heap.objs.size (memb ks) (cnt ks)) (fun led _ B R calm un k => ?_) fin
    have at0 : (setAhead X.w led s.heap "tuple_iterator" l).get? s.heap.objs.size = some { cls := .type "set", dict := none, data := .set #[] 0 (.fresh 0 0 led) } := Heap.get?_push_of_some _ (Heap.get?_push_size _ rfl)
    have at1 : (setAhead X.w led s.heap "tuple_iterator" l).get? (s.heap.objs.size + 1) = some { cls := .type "tuple_iterator", data := .fields #[.ref l, .int 0 0] } := by
      rw [← two led]
      exact Heap.get?_push_size _ rfl
    have ls : ks.length = its.toArray.size := by
      have := rv.length
      rw [List.length_map] at this
      simpa using this
    refine fill_keys (mixKind X.prog X.w) (Walks.tuple calm (s.heap.objs.size + 1) l (Nat.ne_of_lt (Nat.lt_succ_of_lt lt)) its.toArray).toS s.heap.objs.size (by
      simp only [List.mem_cons, List.not_mem_nil, or_false, not_or]
      exact ⟨Nat.ne_of_lt (Nat.lt_succ_self _), Nat.ne_of_gt lt⟩) ks ls (by rw [← ls]; unfold scanBound; omega) (key rv) its.toArray.size 0 _ (by omega) ⟨⟨_, at1, rfl, rfl⟩, (pl.push _).push _⟩ (fresh_set at0) fun s' mv S => k s' mv S
end
end Rt
namespace Rt
open PySem PySem.Spec PyProof.Rows L2
section
variable {X : Cx}
theorem items_keys {P : Program} {w : World} : ∀ {k : List Key} {us : List Value}, Vals (k.map kV) us → ItemsAre (mixKind P w) k us
  | [], _, .nil => .nil
  | n :: k, _, .cons r t => .cons (kV_is r) (items_keys t)
theorem refs_at : ∀ {ks : List (Addr × List Key)} {us : List Value}, Vals (ks.map fun p => V.ref p.1) us → us = ks.map fun p => Value.ref p.1
  | [], _, .nil => rfl
  | p :: ks, _, .cons r t => by
    cases r
    rw [refs_at t]
    rfl
/-- set(xs), xs a list of up to four tuples of ints and texts -/
theorem call_setT (hc : X.calm = true) (hu : X.A.units + 64 < cLine) : CallR X (.type "set") (fun xs H Q => ∃ l, ∃ ks : List (Addr × List Key), xs = [V.ref l] ∧ SqL X.K H l (ks.map fun p => V.ref p.1) ∧ (∀ p ∈ ks, SqT X.K H p.1 (p.2.map kV)) ∧ ks.length ≤ 4 ∧
    ∀ p, H p = none → Q (.ref p) (upd H p (SetN p (cnt (ks.map (·.2)))))) := by
  intro pins s σ H xs us Q I r h
  obtain ⟨l, ks, rfl, hl, hk, few, q⟩ := h
  rw [Vals.ref1 r]
  obtain ⟨its, rv, pl, hz'⟩ := I.list hl
  have tups : ∀ p ∈ ks, IsTupleKey (mixKind X.prog X.w) s.heap p.2 p.1 := fun p hp => by
    obtain ⟨us, ru, ⟨o, ho, hcl, n, hd⟩, _⟩ := I.tuple (hk p hp)
    exact ⟨o, us.toArray, n, ho, hcl, hd, by simpa using items_keys ru⟩
  have eits : its = ks.map fun p => Value.ref p.1 := refs_at rv
  have lt : l < s.heap.objs.size := by
    obtain ⟨o, ho, _⟩ := pl.isList
    exact Heap.lt_size ho
  have free : ∀ b, s.heap.objs.size ≤ b → s.heap.get? b = none := fun b hb => Heap.get?_none_of_le hb
  refine set_list (I.ok.hd hc) pl.isList (T := fun h' => TIn (mixKind X.prog X.w) s.heap.objs.size ks ks.length h') (fun led _ B R calm un k => ?_) (fun h' tk S kp => ?_)
  · have two : (s.heap.push { cls := .type "set", dict := none, data := .set #[] 0 (.fresh 0 0 led) }).objs.size = s.heap.objs.size + 1 := Heap.size_push ..
    have at0 : (setAhead X.w led s.heap "list_iterator" l).get? s.heap.objs.size = some { cls := .type "set", dict := none, data := .set #[] 0 (.fresh 0 0 led) } := Heap.get?_push_of_some _ (Heap.get?_push_size _ rfl)
    have at1 : (setAhead X.w led s.heap "list_iterator" l).get? (s.heap.objs.size + 1) = some { cls := .type "list_iterator", data := .fields #[.ref l, .int 0 0] } := by
      rw [← two]
      exact Heap.get?_push_size _ rfl
    have ls : ks.length = its.toArray.size := by
      rw [eits]
      simp
    have val : ∀ (i : Nat) (v : Value), its.toArray[i]? = some v → ∃ p, ks[i]? = some p ∧ v = .ref p.1 := fun i v hv => by
      have hv' : its[i]? = some v := by simpa using hv
      rw [eits, List.getElem?_map] at hv'
      cases hx : ks[i]? with
      | none => rw [hx] at hv'; cases hv'
      | some p =>
        rw [hx] at hv'
        exact ⟨p, rfl, (Option.some.inj hv').symm⟩
    have empty : TSet (mixKind X.prog X.w) (setAhead X.w led s.heap "list_iterator" l) s.heap.objs.size [] #[] 0 (.fresh 0 0 led) :=
      ⟨⟨_, at0, ⟨rfl, rfl, rfl⟩, rfl⟩, rfl, ⟨List.Pairwise.nil, rfl, rfl, .inl rfl, fun x hx => (nomatch hx), fun i h j hi _ => by simp at hi⟩, List.nodup_nil, fun p hp => (nomatch hp), rfl, Nat.zero_le _⟩
    refine fill_tups mixMild (Walks.list calm (s.heap.objs.size + 1) l (Nat.ne_of_lt (Nat.lt_succ_of_lt lt)) its.toArray).toS s.heap.objs.size (by
      simp only [List.mem_cons, List.not_mem_nil, or_false, not_or]
      exact ⟨Nat.ne_of_lt (Nat.lt_succ_self _), Nat.ne_of_gt lt⟩) ks ls (by rw [← ls]; exact few) val s.heap tups (free _ (Nat.le_refl _)) (fun b hb => free b (by
        rw [List.mem_singleton.mp hb]
        exact Nat.le_succ _)) (by omega) its.toArray.size 0 _ (by omega) ⟨⟨_, at1, rfl, rfl⟩, (pl.isList.push _).push _⟩ (fun b o e => Heap.get?_push_of_some _ (Heap.get?_push_of_some _ e)) ⟨[], #[], 0, _, empty, fun k => by simp, rfl, fun p hp => (nomatch hp)⟩ fun s' mv S => k s' mv (by rw [ls]; exact S)
  · obtain ⟨L, es, ep, t, T, z1, z2, z3⟩ := S
    obtain ⟨o, ho, hex, hd⟩ := T.ob
    rw [List.take_length] at z2
    exact ⟨.ref s.heap.objs.size, _, I.laid (t' := tk) kp (Nat.le_refl _) (setN_ok ⟨o, es, ep, t, ho, hex, hd, T.fits, T.size.trans z2⟩), rfl, q _ (I.hok.fresh (Nat.le_refl _))⟩
end
end Rt
end
section
set_option Elab.async false
set_option linter.all false
set_option maxRecDepth 100000
set_option maxHeartbeats 4000000
/-! words: is_word, is_one_of, are_unlike -/
namespace Rt
open PySem PySem.Spec PyProof.Rows L2
def spWord (K : PySem.W.Frag) : Sp := fun vs H Q _ => ∃ x T, vs = [x] ∧ Ts K H x T ∧ (∀ z, x = .str z → z.length ≤ 1000) ∧ ∀ H', Same H H' → Q (.bl (isWord x)) H'
def spOne (K : PySem.W.Frag) : Sp := fun vs H Q _ => ∃ a ns x T, vs = [.ref a, x] ∧ strsL K H a ns ∧ Ts K H x T ∧ Q (.bl (isOne ns x)) H
def spUnlike (K : PySem.W.Frag) : Sp := fun vs H Q _ => ∃ a ns b xs, vs = [.ref a, .ref b] ∧ Sq K H a (ns.map V.str) ∧ Sq K H b xs ∧ (∀ x ∈ xs, ∃ T, Ts K H x T) ∧ xs.length ≤ 60 ∧ ns.length ≤ 60 ∧ ∀ H', Same H H' → Q (.bl (unlike ns xs)) H'
section
variable {P : Program} {w : World} {K : PySem.W.Frag} {mg : Str → Option Value} {base : Heap}
theorem cal_is_word (Z : All K mg) : Cal P w K mg base CX0 1 "is_word" ["value"] (spWord K) := by
  obtain ⟨fd, F⟩ := Z.f_is_word
  refine .of ⟨fd, F, ok0 F sc_is_word (fun vs H Q E h => ?_) (fun cdv A outer s H vs Q E hr h => ?_)⟩ Z.g_is_word (fun _ _ _ _ _ _ us hl => match us, hl with | [_], _ => rfl)
  · obtain ⟨x, T, rfl, _⟩ := h
    rfl
  · obtain ⟨x, T, rfl, hT, hz, k⟩ := h
    refine ⟨_, pss_cons (ps_if (PW.pt (pw_or (pt_not (pt_val (pe_callB (call_is (cn := "str") (by decide)) (by rfl) Z.b_isinstance boot_isinstance (pa_cons (pv 0) (pa_cons (pe_bltn (v := .ty "str") (by rfl) Z.b_str PyProof.Rows.boot_str rfl) pa_nil)))))
        (pw_or1 (pt_not (pt_chain op_le op_le pe_int (pe_callB call_len (by rfl) Z.b_len PySem.boot_len (pa_cons (pv 0) pa_nil)) (pe_gint (by rfl) Z.LONGEST_WORD)))))) (pss_one (ps_ret pe_bl)) pss_nil)
      (pss_one (ps_ret (pe_callB (cr_all rfl) (by rfl) Z.b_all boot_all (pa_cons (pe_lc (own := [("sign", 1)]) (g := gName 1) (by rfl) sc_is_word.nd (pi_str (pv 0)) (blkOk_by (own := [("sign", 1)]) (N := ["value", "sign"]) (sc := defScope s_is_word) (by decide +kernel))
        (fun _ _ _ _ _ => pg_name (i := 1) sc_is_word.nd rfl (Or.inl rfl)) (fun _ _ _ _ _ => pts_nil) (fun _ _ _ _ _ => pe_cmpR op_in_sign (pv 1) (pe_gstr (by rfl) Z.SMALL_LETTERS) rfl)) pa_nil)))), ?_⟩
    refine ⟨_, rfl, x, T, rfl, hT, _, rfl, ?_⟩
    cases hT with
    | str z =>
      refine ifF (by decide) ⟨_, rfl, _, z.length, rfl, ⟨Nat.le_of_lt (line_of (hz z rfl) (by decide)), rfl⟩, _, _, rfl, rfl, _, rfl, ifB (fun e1 => ?_) (fun e1 => ?_)⟩
      · refine ⟨_, _, rfl, rfl, _, rfl, ?_⟩
        show if (!decide ((z.length : Int) ≤ 8)) = true then _ else _
        refine ifB (fun e2 => ?_) (fun e2 => ?_)
        · have e : isWord (.str z) = false := by
            show ((decide ((1 : Int) ≤ (z.length : Int)) && decide ((z.length : Int) ≤ 8)) && _) = false
            rw [Bool.not_eq_true'] at e2
            rw [e2, Bool.and_false, Bool.false_and]
          rw [e] at k
          exact k H (Same.refl H)
        · have e3 : decide ((z.length : Int) ≤ 8) = true := by rw [Bool.not_eq_false'] at e2; exact e2
          refine ⟨_, rfl, z, rfl, fun D nD => lc_it (Qd := fun H' => _) walk_str (LcP H D fun i => (z.cps.toList.take i).map fun c => V.bl (decide (c ∈ letters.cps.toList))) (LcP.zero nD rfl) (fun _ _ _ _ => trivial) ?_ ?_⟩
          · rintro i v H2 H3 hi p ⟨rfl, c, hc, rfl⟩
            have hc' : z.cps.toList[i]? = some c := by rw [Array.getElem?_toList]; exact hc
            refine ⟨rfl, _, rfl, c, letters, rfl, rfl, ?_⟩
            refine p.put nD (map_one _ hc') (line_of (m := 1000) ?_ (by decide))
            rw [List.length_map]
            exact Nat.le_trans (List.length_take_le' _ _) (by rw [Array.length_toList]; exact hz z rfl)
          · intro H2 p
            have e4 : ((z.cps.toList.take z.cps.size).map fun c => V.bl (decide (c ∈ letters.cps.toList))) = (signs z).map V.bl := by
              rw [List.take_of_length_le (by rw [Array.length_toList]; exact Nat.le_refl _)]
              unfold signs
              rw [List.map_map]
              rfl
            refine ⟨D, signs z, rfl, SqL.of (by rw [p.at_, e4]), ?_⟩
            have e : isWord (.str z) = (signs z).all id := by
              show ((decide ((1 : Int) ≤ (z.length : Int)) && decide ((z.length : Int) ≤ 8)) && _) = _
              rw [e1, e3, Bool.and_true, Bool.true_and]
            rw [e] at k
            exact k H2 p.same
      · have e : isWord (.str z) = false := by
          show ((decide ((1 : Int) ≤ (z.length : Int)) && decide ((z.length : Int) ≤ 8)) && _) = false
          rw [e1, Bool.false_and, Bool.false_and]
        rw [e] at k
        exact ⟨_, rfl, ifT rfl (k H (Same.refl H))⟩
    | bl b => exact ifT (by decide) (k H (Same.refl H))
    | non => exact ifT (by decide) (k H (Same.refl H))
    | int x => exact ifT (by decide) (k H (Same.refl H))
    | tup h => exact ifT (by decide) (k H (Same.refl H))
    | lst h => exact ifT (by decide) (k H (Same.refl H))
    | dct h => exact ifT (by decide) (k H (Same.refl H))
theorem cal_is_one_of (Z : All K mg) : Cal P w K mg base CX0 1 "is_one_of" ["names", "value"] (spOne K) := by
  obtain ⟨fd, F⟩ := Z.f_is_one_of
  refine .of ⟨fd, F, ok0 F sc_is_one_of (fun vs H Q E h => ?_) (fun cdv A outer s H vs Q E hr h => ?_)⟩ Z.g_is_one_of (fun _ _ _ _ _ _ us hl => match us, hl with | [_, _], _ => rfl)
  · obtain ⟨a, ns, x, T, rfl, _⟩ := h
    rfl
  · obtain ⟨a, ns, x, T, rfl, hn, hT, k⟩ := h
    refine ⟨_, pss_one (ps_ret (pe_and (pe_callB (call_is (cn := "str") (by decide)) (by rfl) Z.b_isinstance boot_isinstance (pa_cons (pv 1) (pa_cons (pe_bltn (v := .ty "str") (by rfl) Z.b_str PyProof.Rows.boot_str rfl) pa_nil)))
      (pe_one (pe_cmpR op_in_seq (pv 1) (pv 0) rfl)))), ?_⟩
    refine ⟨_, rfl, x, T, rfl, hT, _, rfl, ?_⟩
    cases hT with
    | str z =>
      refine ifT (by decide) ⟨_, rfl, _, rfl, a, ns.map V.str, rfl, hn, rfl, flat_strsV ns, ?_⟩
      show Q (.bl (inV (.str z) (ns.map V.str))) H
      rw [inV_strs]
      exact k
    | bl b => exact ifF (by decide) k
    | non => exact ifF (by decide) k
    | int x => exact ifF (by decide) k
    | tup h => exact ifF (by decide) k
    | lst h => exact ifF (by decide) k
    | dct h => exact ifF (by decide) k
theorem cal_are_unlike (Z : All K mg) : Cal P w K mg base CX0 2 "are_unlike" ["names", "values"] (spUnlike K) := by
  obtain ⟨fd, F⟩ := Z.f_are_unlike
  have C1 : Cal P w K mg base CX0 1 "is_one_of" ["names", "value"] (spOne K) := cal_is_one_of Z
  refine .of ⟨fd, F, ok0 F sc_are_unlike (fun vs H Q E h => ?_) (fun cdv A outer s H vs Q E hr h => ?_)⟩ Z.g_are_unlike (fun _ _ _ _ _ _ us hl => match us, hl with | [_, _], _ => rfl)
  · obtain ⟨a, ns, b, xs, rfl, _⟩ := h
    rfl
  · obtain ⟨a, ns, b, xs, rfl, ha, hb, ht, hx, hn, k⟩ := h
    refine ⟨_, pss_cons (ps_if (PW.pt (pw_or (pt_cmpR op_gt (pe_callB call_len (by rfl) Z.b_len PySem.boot_len (pa_cons (pv 1) pa_nil)) (pe_callB call_len (by rfl) Z.b_len PySem.boot_len (pa_cons (pv 0) pa_nil)) (nomark _))
        (pw_or1 (pt_not (pt_val (pe_callB (cr_all rfl) (by rfl) Z.b_all boot_all (pa_cons (pe_lc (own := [("value", 2)]) (g := gName 2) (by rfl) sc_are_unlike.nd (pi_seq (pv 1)) (blkOk_by (own := [("value", 2)]) (N := ["names", "values", "value"]) (sc := defScope s_are_unlike) (by decide +kernel))
          (fun _ _ _ _ _ => pg_name (i := 2) sc_are_unlike.nd rfl (Or.inl rfl)) (fun _ _ _ _ _ => pts_nil) (fun _ _ _ _ _ => pe_cal C1 hr (by rfl) pass0 (pa_cons (pv 0) (pa_cons (pv 2) pa_nil)))) pa_nil))))))) (pss_one (ps_ret pe_bl)) pss_nil)
      (pss_one (ps_ret (pe_cmpR op_eq (pe_callB call_lenN (by rfl) Z.b_len PySem.boot_len (pa_cons (pe_callTy (call_setK rfl) (by rfl) Z.b_set PyProof.Rows.boot_set (pa_cons (pv 1) pa_nil)) pa_nil)) (pe_callB call_len (by rfl) Z.b_len PySem.boot_len (pa_cons (pv 1) pa_nil)) (nomark _)))), ?_⟩
    refine ⟨_, rfl, _, xs.length, rfl, lenV_sq hb, _, rfl, _, (ns.map V.str).length, rfl, lenV_sq ha, _, _, rfl, rfl, _, rfl, ?_⟩
    rw [List.length_map]
    refine ifB (fun e => ?_) (fun e => ?_)
    · have z : unlike ns xs = false := by
        unfold unlike
        rw [e]
        rfl
      rw [z] at k
      exact k H (Same.refl H)
    · refine ⟨_, rfl, b, rfl, ?_⟩
      refine lc_seq (K := K) hb (fun i => (xs.take i).map fun x => V.bl (isOne ns x)) rfl (fun D nD i x H2 hi p => ?_) fun D H2 nD s2 at2 => ?_
      · obtain ⟨T, t⟩ := ht x (List.mem_of_getElem? hi)
        refine ⟨rfl, _, rfl, _, rfl, a, ns, x, T, rfl, ha.same p.same, t.same p.same, ?_⟩
        refine p.put nD (map_one _ hi) (line_of (m := 60) ?_ (by decide))
        rw [List.length_map]
        exact Nat.le_trans (List.length_take_le' _ _) hx
      · refine ⟨D, xs.map (isOne ns), rfl, SqL.of (by rw [at2, List.take_length, List.map_map]; rfl), _, rfl, ?_⟩
        have e1 : (xs.map (isOne ns)).all id = xs.all (isOne ns) := by simp [List.all_map]
        rw [e1]
        refine ifB (fun e2 => ?_) (fun e2 => ?_)
        · have z : unlike ns xs = false := by
            unfold unlike
            rw [Bool.not_eq_true'] at e2
            rw [e2, Bool.false_and, Bool.and_false]
          rw [z] at k
          exact k H2 s2
        · rw [Bool.not_eq_false'] at e2
          have back := strs_back e2
          have hb2 : Sq K H2 b (((xs.filterMap strOf).map Sum.inr).map kV) := by
            rw [List.map_map]
            show Sq K H2 b ((xs.filterMap strOf).map V.str)
            rw [← back]
            exact hb.same s2
          have hl : (xs.filterMap strOf).length = xs.length := by
            have q := congrArg List.length back
            rw [List.length_map] at q
            exact q.symm
          refine ⟨_, rfl, b, (xs.filterMap strOf).map Sum.inr, rfl, hb2, by rw [List.length_map, hl]; exact hx, fun p np => ?_⟩
          have le : cnt ((xs.filterMap strOf).map (Sum.inr : Str → Key)) ≤ 60 := by
            have q := cnt_le ((xs.filterMap strOf).map (Sum.inr : Str → Key))
            rw [List.length_map, hl] at q
            omega
          refine ⟨p, _, rfl, upd_same, by omega, _, rfl, _, xs.length, rfl, lenV_sq ((hb.same s2).same (Same.new np)), rfl, ?_⟩
          have z : unlike ns xs = decide (V.int ((cnt ((xs.filterMap strOf).map (Sum.inr : Str → Key)) : Nat) : Int) = V.int ((xs.length : Nat) : Int)) := by
            unfold unlike
            rw [e, e2, Bool.not_false, Bool.true_and, Bool.true_and]
            have q := cnt_nd ((xs.filterMap strOf).map (Sum.inr : Str → Key))
            rw [List.length_map, hl] at q
            have q2 : ((xs.filterMap strOf).map (Sum.inr : Str → Key)).Nodup ↔ (xs.filterMap strOf).Nodup := ⟨fun h => List.Pairwise.of_map Sum.inr (fun _ _ hne e => hne (congrArg _ e)) h, fun h => List.Pairwise.map Sum.inr (fun _ _ hne e => hne (Sum.inr.inj e)) h⟩
            have q3 : (V.int ((cnt ((xs.filterMap strOf).map (Sum.inr : Str → Key)) : Nat) : Int) = V.int ((xs.length : Nat) : Int)) ↔ (xs.filterMap strOf).Nodup := by
              rw [← q2, ← q]
              constructor
              · intro h
                injection h with h
                omega
              · intro h
                rw [h]
            by_cases d : (xs.filterMap strOf).Nodup
            · rw [decide_eq_true d, decide_eq_true (q3.mpr d)]
            · rw [decide_eq_false d, decide_eq_false fun h => d (q3.mp h)]
          rw [z] at k
          exact k _ (s2.trans (Same.new np))
end
end Rt
end
section
set_option Elab.async false
set_option linter.all false
set_option maxRecDepth 100000
set_option maxHeartbeats 4000000
/-! the draws: take, one, pool -/
namespace Rt
open PySem PySem.Spec PyProof.Rows L2
def spTake : Sp := fun vs H Q _ => ∃ (p : Addr) (n : Int), vs = [.ref p, .int n] ∧ PoolAt H p ∧ 0 < n ∧ n < 1073741824 ∧ ∀ (r : Int) H', 0 ≤ r → r < n → Aft p H H' → Q (.int r) H'
def spPool (K : PySem.W.Frag) : Sp := fun vs H Q _ => ∃ (a : Addr) (ns : List Int) (k : Int), vs = [.ref a, .int k] ∧ SqL K H a (ns.map V.int) ∧ 0 ≤ k ∧ k ≤ 100 ∧ ∀ p H', H p = none → Same H H' → PoolAt H' p → Q (.ref p) H'
/-- one of the things of a list or a tuple -/
def spLone (K : PySem.W.Frag) : Sp := fun vs H Q _ => ∃ (p b : Addr) (xs : List V), vs = [.ref p, .ref b] ∧ PoolAt H p ∧ Sq K H b xs ∧ b ≠ p ∧ 0 < xs.length ∧ xs.length ≤ 1000 ∧ ∀ x H', x ∈ xs → Aft p H H' → Q x H'
theorem Aft.sq {K : PySem.W.Frag} {p b : Addr} {H H' : Hp} {xs : List V} (a : Aft p H H') (h : Sq K H b xs) (n : b ≠ p) : Sq K H' b xs := h.elim (fun h => .inl (a.sqL h n)) fun h => .inr (a.sqT h n)
section
variable {P : Program} {w : World} {K : PySem.W.Frag} {mg : Str → Option Value} {base : Heap}
theorem cal_law_take (Z : All K mg) : Cal P w K mg base CX0 1 "_law_take" ["_law_pool_here", "_law_bound"] spTake := by
  obtain ⟨fd, F⟩ := Z.f_law_take
  refine .of ⟨fd, F, ok0 F sc_law_take (fun vs H Q E h => ?_) (fun cdv A outer s H vs Q E hr h => ?_)⟩ Z.g_law_take (fun _ _ _ _ _ _ us hl => match us, hl with | [_, _], _ => rfl)
  · obtain ⟨p, n, rfl, _⟩ := h
    rfl
  · obtain ⟨p, n, rfl, ⟨x, y, hp, x0, y0, y1⟩, n0, n1, k⟩ := h
    refine ⟨_, (pss_cons (ps_if (pt_cmpR op_gt (pe_ix ix_list (pv 0) pe_int (fun _ _ => rfl)) pe_int (nomark _)) (pss_cons (ps_set (i := 2) sc_law_take.nd rfl (Or.inl rfl) (pe_op op_mod (pe_callTy call_int1 (by rfl) Z.b_int PyProof.Rows.boot_int (pa_cons (pe_ix ix_list (pv 0) pe_int (fun _ _ => rfl)) pa_nil)) (pv 1)))
      (pss_cons (ps_asg (pe_op op_fdiv (pe_ix ix_list (pv 0) pe_int (fun _ _ => rfl)) (pv 1)) (pg_sub (pv 0) pe_int L2.set_list))
      (pss_one (ps_ret (pv 2))))) pss_nil)
      (pss_cons (ps_asg (pe_op op_mod (pe_callTy call_int1 (by rfl) Z.b_int PyProof.Rows.boot_int (pa_cons (pe_op op_add (pe_op op_mul (pe_ix ix_list (pv 0) pe_int (fun _ _ => rfl)) pe_int) pe_int) pa_nil)) pe_int) (pg_sub (pv 0) pe_int L2.set_list))
      (pss_one (ps_ret (pe_op op_mod (pe_callTy call_int1 (by rfl) Z.b_int PyProof.Rows.boot_int (pa_cons (pe_op op_fdiv (pe_op op_mod (pe_callTy call_int1 (by rfl) Z.b_int PyProof.Rows.boot_int (pa_cons (pe_op op_mul (pe_ix ix_list (pv 0) pe_int (fun _ _ => rfl)) (pe_ix ix_list (pv 0) pe_int (fun _ _ => rfl))) pa_nil)) pe_int) pe_int) pa_nil)) (pv 1)))))), ?_⟩
    refine ⟨_, rfl, p, _, _, _, rfl, rfl, SqL.of hp, rfl, _, _, rfl, rfl, _, rfl, ?_⟩
    refine ifB (fun e => ?_) (fun e => ?_)
    · refine ⟨_, rfl, p, _, _, _, rfl, rfl, SqL.of hp, rfl, .inl ⟨_, rfl, _, rfl, _, _, rfl, rfl, n0, ?_⟩⟩
      refine ⟨_, rfl, p, _, _, _, rfl, rfl, SqL.of hp, rfl, _, rfl, _, _, rfl, rfl, ⟨n0, n1⟩, _, rfl, p, _, _, 0, rfl, rfl, hp, rfl, _, rfl, ?_⟩
      refine k _ _ (Int.emod_nonneg _ (by omega)) (Int.emod_lt_of_pos _ n0) ⟨⟨x / n, y, upd_same, Int.ediv_nonneg x0 (by omega), y0, y1⟩, fun b o nb hb => ?_⟩
      rw [upd_ne nb]
      exact hb
    · refine ⟨_, rfl, p, _, _, _, rfl, rfl, SqL.of hp, rfl, _, _, rfl, rfl, .inl ⟨by omega, by omega⟩, _, _, rfl, rfl, .inl ⟨_, rfl, _, _, rfl, rfl, (by show (0 : Int) < 2147483647; decide), ?_⟩⟩
      refine ⟨_, rfl, p, _, _, 1, rfl, rfl, hp, rfl, ?_⟩
      have z0 : 0 ≤ (y * 39373 + 7) % 2147483647 := Int.emod_nonneg _ (by decide)
      have z1 : (y * 39373 + 7) % 2147483647 < 2147483647 := Int.emod_lt_of_pos _ (by decide)
      have hp2 : (upd H p (.lst ([V.int x, V.int y].set 1 (.int ((y * 39373 + 7) % 2147483647))))) p = some (.lst [.int x, .int ((y * 39373 + 7) % 2147483647)]) := upd_same
      refine ⟨_, rfl, p, _, _, _, rfl, rfl, SqL.of hp2, rfl, _, rfl, p, _, _, _, rfl, rfl, SqL.of hp2, rfl, _, _, rfl, rfl, .inl ⟨by omega, by omega⟩, .inl ⟨_, rfl, _, _, rfl, rfl, (by show (0 : Int) < 2147483629; decide), ?_⟩⟩
      refine ⟨_, _, rfl, rfl, ⟨by decide, by decide⟩, .inl ⟨_, rfl, _, rfl, _, _, rfl, rfl, n0, ?_⟩⟩
      refine k _ _ (Int.emod_nonneg _ (by omega)) (Int.emod_lt_of_pos _ n0) ⟨⟨x, _, hp2, x0, z0, z1⟩, fun b o nb hb => ?_⟩
      rw [upd_ne nb]
      exact hb
theorem cal_law_pool (Z : All K mg) : Cal P w K mg base CX0 1 "_law_pool" ["_law_script", "_law_k"] (spPool K) := by
  obtain ⟨fd, F⟩ := Z.f_law_pool
  refine .of ⟨fd, F, ok0 F sc_law_pool (fun vs H Q E h => ?_) (fun cdv A outer s H vs Q E hr h => ?_)⟩ Z.g_law_pool (fun _ _ _ _ _ _ us hl => match us, hl with | [_, _], _ => rfl)
  · obtain ⟨a, ns, k, rfl, _⟩ := h
    rfl
  · obtain ⟨a, ns, i, rfl, ha, i0, i1, k⟩ := h
    refine ⟨_, (pss_cons (ps_set (i := 2) sc_law_pool.nd rfl (Or.inl rfl) pe_int)
      (pss_cons (ps_if (pt_cmpR op_lt (pv 1) (pe_callB call_len (by rfl) Z.b_len PySem.boot_len (pa_cons (pv 0) pa_nil)) (nomark _)) (pss_one (ps_set (i := 2) sc_law_pool.nd rfl (Or.inl rfl) (pe_ix ix_list (pv 0) (pv 1) (fun _ _ => rfl)))) pss_nil)
      (pss_cons (ps_set (i := 3) sc_law_pool.nd rfl (Or.inl rfl) (pe_callB (call_max2 rfl) (by rfl) Z.b_max PyProof.Rows.boot_max (pa_cons (pe_callTy call_int1 (by rfl) Z.b_int PyProof.Rows.boot_int (pa_cons (pv 2) pa_nil)) (pa_cons (pe_callTy call_int1 (by rfl) Z.b_int PyProof.Rows.boot_int (pa_cons (pe_op op_sub (pe_un un_neg pe_int) (pv 2)) pa_nil)) pa_nil))))
      (pss_cons (ps_set (i := 4) sc_law_pool.nd rfl (Or.inl rfl) (pe_op op_mod (pe_callTy call_int1 (by rfl) Z.b_int PyProof.Rows.boot_int (pa_cons (pe_op op_mul (pe_op op_add (pe_op op_add (pe_op op_add (pe_op op_mod (pe_callTy call_int1 (by rfl) Z.b_int PyProof.Rows.boot_int (pa_cons (pv 3) pa_nil)) pe_int) (pe_op op_mul (pe_op op_mul pe_int (pv 1)) (pv 1))) (pe_op op_mul pe_int (pv 1))) pe_int) pe_int) pa_nil)) pe_int))
      (pss_one (ps_ret (pe_lst (pa_cons (pe_op op_mul (pv 3) (pe_callTy call_int1 (by rfl) Z.b_int PyProof.Rows.boot_int (pa_cons (pe_cmpR op_ge (pv 3) (pe_op op_pow pe_int pe_int) (nomark _)) pa_nil))) (pa_cons (pv 4) pa_nil))))))))), ?_⟩
    have two64 : (2 : Int) ^ 64 = 18446744073709551616 := by decide
    have fin : ∀ (c : Int) (p : Addr), H p = none → ∀ z : Int, 0 ≤ z → z < 2147483647 → ∀ g : Bool, PoolAt (upd H p (.lst [.int ((if -1 - c > c then -1 - c else c) * (if g then 1 else 0)), .int z])) p := fun c p np z z0 z1 g => by
      refine ⟨_, _, upd_same, ?_, z0, z1⟩
      refine Int.mul_nonneg ?_ ?_
      · split <;> omega
      · split <;> decide
    have b2 : ∀ g : Bool, (-(2 ^ 64) : Int) < (if g = true then 1 else 0) ∧ (if g = true then (1 : Int) else 0) < 2 ^ 64 := fun g => by cases g <;> decide
    have md : ∀ x : Int, 0 ≤ x % 2147483647 ∧ x % 2147483647 < 2147483647 := fun x => ⟨Int.emod_nonneg _ (by decide), Int.emod_lt_of_pos _ (by decide)⟩
    refine ⟨_, rfl, _, rfl, _, (ns.map V.int).length, rfl, .inl ⟨_, ha, rfl⟩, _, _, rfl, rfl, _, rfl, ?_⟩
    refine ifB (fun e => ?_) (fun e => ?_)
    · have lt : i < ((ns.map V.int).length : Int) := of_decide_eq_true e
      obtain ⟨j, x, hx, at_, _⟩ := atI_of i0 lt
      obtain ⟨c, rfl⟩ : ∃ c, x = .int c := by
        obtain ⟨c, _, rfl⟩ := List.mem_map.mp (List.mem_of_getElem? hx)
        exact ⟨c, rfl⟩
      refine ⟨_, rfl, _, rfl, a, _, _, _, rfl, rfl, ha, at_, ?_⟩
      refine ⟨_, rfl, .inl ⟨_, rfl, _, rfl, _, rfl, _, _, rfl, rfl, .inl ⟨_, rfl, _, _, rfl, ?_⟩⟩⟩
      refine ⟨_, rfl, .inl ⟨_, rfl, _, _, rfl, rfl, (by show (0 : Int) < 2147483629; decide), _, rfl, _, _, rfl, rfl, .inl ⟨by decide, by decide⟩, _, rfl, _, _, rfl, rfl, .inr ⟨by rw [two64]; omega, by rw [two64]; omega⟩, _, _, rfl, rfl, ?_⟩⟩
      refine ⟨_, rfl, _, _, rfl, rfl, .inl ⟨by decide, by decide⟩, _, _, rfl, rfl, _, _, rfl, rfl, _, _, rfl, rfl, .inr ⟨by decide, by decide⟩, .inl ⟨_, rfl, _, _, rfl, rfl, (by show (0 : Int) < 2147483647; decide), ?_⟩⟩
      refine ⟨_, rfl, _, rfl, _, _, rfl, rfl, ⟨by decide, by decide, by decide⟩, _, _, rfl, rfl, .inr ⟨_, rfl, _, _, rfl, rfl, .inr (b2 _), _, rfl, (by show 2 ≤ sizeLine; decide), fun p np => ?_⟩⟩
      exact k p _ np (Same.new np) (fin c p np _ (md _).1 (md _).2 _)
    · refine ⟨_, rfl, .inl ⟨_, rfl, _, rfl, _, rfl, _, _, rfl, rfl, .inl ⟨_, rfl, _, _, rfl, ?_⟩⟩⟩
      refine ⟨_, rfl, .inl ⟨_, rfl, _, _, rfl, rfl, (by show (0 : Int) < 2147483629; decide), _, rfl, _, _, rfl, rfl, .inl ⟨by decide, by decide⟩, _, rfl, _, _, rfl, rfl, .inr ⟨by rw [two64]; omega, by rw [two64]; omega⟩, _, _, rfl, rfl, ?_⟩⟩
      refine ⟨_, rfl, _, _, rfl, rfl, .inl ⟨by decide, by decide⟩, _, _, rfl, rfl, _, _, rfl, rfl, _, _, rfl, rfl, .inr ⟨by decide, by decide⟩, .inl ⟨_, rfl, _, _, rfl, rfl, (by show (0 : Int) < 2147483647; decide), ?_⟩⟩
      refine ⟨_, rfl, _, rfl, _, _, rfl, rfl, ⟨by decide, by decide, by decide⟩, _, _, rfl, rfl, .inr ⟨_, rfl, _, _, rfl, rfl, .inr (b2 _), _, rfl, (by show 2 ≤ sizeLine; decide), fun p np => ?_⟩⟩
      exact k p _ np (Same.new np) (fin 0 p np _ (md _).1 (md _).2 _)
theorem cal_law_one (Z : All K mg) : Cal P w K mg base CX0 2 "_law_one" ["_law_pool_here", "_law_things"] (spLone K) := by
  obtain ⟨fd, F⟩ := Z.f_law_one
  have C_law_take : Cal P w K mg base CX0 1 "_law_take" ["_law_pool_here", "_law_bound"] spTake := cal_law_take Z
  refine .of ⟨fd, F, ok0 F sc_law_one (fun vs H Q E h => ?_) (fun cdv A outer s H vs Q E hr h => ?_)⟩ Z.g_law_one (fun _ _ _ _ _ _ us hl => match us, hl with | [_, _], _ => rfl)
  · obtain ⟨p, b, xs, rfl, _⟩ := h
    rfl
  · obtain ⟨p, b, xs, rfl, hp, hb, nb, x0, x1, k⟩ := h
    refine ⟨_, (pss_one (ps_ret (pe_ix (ix_list.or ix_tup) (pv 1) (pe_cal C_law_take (hr.mono (by decide)) (by rfl) pass0 (pa_cons (pv 0) (pa_cons (pe_callB call_len (by rfl) Z.b_len PySem.boot_len (pa_cons (pv 1) pa_nil)) pa_nil))) (fun _ _ => rfl)))), ?_⟩
    refine ⟨_, rfl, _, rfl, _, rfl, _, xs.length, rfl, lenV_sq hb, p, _, rfl, hp, by omega, by omega, fun r H' r0 r1 a => ?_⟩
    obtain ⟨i, x, hx, e, _⟩ := atI_of r0 r1
    rcases a.sq hb nb with q | q
    · exact .inl ⟨b, xs, r, x, rfl, rfl, q, e, k x H' (List.mem_of_getElem? hx) a⟩
    · exact .inr ⟨b, xs, r, x, rfl, rfl, q, e, k x H' (List.mem_of_getElem? hx) a⟩
end
end Rt
end
section
set_option Elab.async false
set_option linter.all false
/-! what was let, wants that explain it: the mathematics -/
namespace Rt
open PySem PySem.Spec PyProof.Rows L2
structure An where
  build : List Str
  skill : Str
  lets : Bool
def explB (b : List Str) (as : List An) (z : Str) : Bool := (as.filter fun a => decide (a.skill = z)).all fun a => decide (a.lets = b.all fun y => decide (y ∈ a.build))
def letAll (as : List An) (z y : Str) : Bool := (as.filter fun a => decide (a.skill = z) && a.lets).all fun a => decide (y ∈ a.build)
def mostW (ns : List Str) (as : List An) (z : Str) : List Str := ns.filter fun y => !decide (y = z) && letAll as z y
def othersB (ns : List Str) (z : Str) : List Str := ns.filter fun y => !decide (y = z)
def partsF (acc : List (List Str)) (n : Str) : List (List Str) := acc ++ acc.map (· ++ [n])
def partsB (l : List Str) : List (List Str) := l.foldl partsF [[]]
def fitB (ns : List Str) (as : List An) (z : Str) : List (List Str) := (partsB (othersB ns z)).filter fun b => explB b as z
def unionB (ns : List Str) (rows : List (List Str)) : List Str := ns.filter fun y => !(rows.filter fun r => decide (y ∈ r)).isEmpty
def commonB (ns : List Str) (rows : List (List Str)) : List Str := ns.filter fun y => (rows.filter fun r => !decide (y ∈ r)).isEmpty
def mustB (most : List Str) (as : List An) (z : Str) : List Str := most.filter fun y => !explB (othersB most y) as z
theorem mem_partsF : ∀ (l : List Str) (acc : List (List Str)) (b : List Str), b ∈ l.foldl partsF acc ↔ ∃ c s, c ∈ acc ∧ s.Sublist l ∧ b = c ++ s
  | [], acc, b => by
    constructor
    · intro h
      exact ⟨b, [], h, List.Sublist.slnil, by simp⟩
    · rintro ⟨c, s, hc, hs, rfl⟩
      rw [List.eq_nil_of_sublist_nil hs, List.append_nil]
      exact hc
  | n :: l, acc, b => by
    show b ∈ l.foldl partsF (partsF acc n) ↔ _
    rw [mem_partsF l]
    constructor
    · rintro ⟨c, s, hc, hs, rfl⟩
      rcases List.mem_append.mp hc with hc | hc
      · exact ⟨c, s, hc, .cons _ hs, rfl⟩
      · obtain ⟨d, hd, rfl⟩ := List.mem_map.mp hc
        exact ⟨d, n :: s, hd, .cons_cons _ hs, by simp⟩
    · rintro ⟨c, s, hc, hs, rfl⟩
      cases hs with
      | cons _ hs => exact ⟨c, s, List.mem_append_left _ hc, hs, rfl⟩
      | @cons_cons s' _ _ hs => exact ⟨c ++ [n], s', List.mem_append_right _ (List.mem_map_of_mem hc), hs, by simp⟩
theorem mem_parts {l b : List Str} : b ∈ partsB l ↔ b.Sublist l := by
  unfold partsB
  rw [mem_partsF]
  constructor
  · rintro ⟨c, s, hc, hs, rfl⟩
    rw [List.mem_singleton.mp hc]
    exact hs
  · intro h
    exact ⟨[], b, List.mem_cons_self, h, rfl⟩
theorem parts_len : ∀ (l : List Str) (acc : List (List Str)), (l.foldl partsF acc).length = acc.length * 2 ^ l.length
  | [], acc => by simp
  | n :: l, acc => by
    show (l.foldl partsF (partsF acc n)).length = _
    rw [parts_len l]
    unfold partsF
    rw [List.length_append, List.length_map, List.length_cons, Nat.pow_succ, ← Nat.two_mul, Nat.mul_comm 2, Nat.mul_assoc, Nat.mul_comm 2]
theorem expl_iff {b : List Str} {as : List An} {z : Str} : explB b as z = true ↔ ∀ a ∈ as, a.skill = z → (a.lets = true ↔ ∀ y ∈ b, y ∈ a.build) := by
  unfold explB
  rw [List.all_eq_true]
  constructor
  · intro h a ha e
    have q := of_decide_eq_true (h a (List.mem_filter.mpr ⟨ha, decide_eq_true e⟩))
    rw [q, List.all_eq_true]
    exact ⟨fun h y hy => of_decide_eq_true (h y hy), fun h y hy => decide_eq_true (h y hy)⟩
  · intro h a ha
    obtain ⟨ha, e⟩ := List.mem_filter.mp ha
    have q := h a ha (of_decide_eq_true e)
    refine decide_eq_true ?_
    rw [Bool.eq_iff_iff, q, List.all_eq_true]
    exact ⟨fun h y hy => decide_eq_true (h y hy), fun h y hy => of_decide_eq_true (h y hy)⟩
theorem letAll_iff {as : List An} {z y : Str} : letAll as z y = true ↔ ∀ a ∈ as, a.skill = z → a.lets = true → y ∈ a.build := by
  unfold letAll
  rw [List.all_eq_true]
  constructor
  · intro h a ha e l
    exact of_decide_eq_true (h a (List.mem_filter.mpr ⟨ha, by rw [decide_eq_true e, l]; rfl⟩))
  · intro h a ha
    obtain ⟨ha, e⟩ := List.mem_filter.mp ha
    rw [Bool.and_eq_true] at e
    exact decide_eq_true (h a ha (of_decide_eq_true e.1) e.2)
theorem mem_most {ns : List Str} {as : List An} {z y : Str} : y ∈ mostW ns as z ↔ y ∈ ns ∧ y ≠ z ∧ letAll as z y = true := by
  unfold mostW
  rw [List.mem_filter, Bool.and_eq_true, Bool.not_eq_true', decide_eq_false_iff_not]
theorem mem_others {ns : List Str} {z y : Str} : y ∈ othersB ns z ↔ y ∈ ns ∧ y ≠ z := by
  unfold othersB
  rw [List.mem_filter, Bool.not_eq_true', decide_eq_false_iff_not]
theorem most_eq (ns : List Str) (as : List An) (z : Str) : mostW ns as z = (othersB ns z).filter fun y => letAll as z y := by
  unfold mostW othersB
  rw [List.filter_filter]
  exact List.filter_congr fun y _ => Bool.and_comm _ _
theorem most_sub {ns : List Str} {as : List An} {z : Str} : (mostW ns as z).Sublist (othersB ns z) := by
  rw [most_eq]
  exact List.filter_sublist
theorem mem_fit {ns : List Str} {as : List An} {z : Str} {b : List Str} : b ∈ fitB ns as z ↔ b.Sublist (othersB ns z) ∧ explB b as z = true := by
  unfold fitB
  rw [List.mem_filter, mem_parts]
theorem fit_most {ns : List Str} {as : List An} {z : Str} {b : List Str} (h : b ∈ fitB ns as z) : ∀ y ∈ b, y ∈ mostW ns as z := fun y hy => by
  obtain ⟨h1, h2⟩ := mem_fit.mp h
  obtain ⟨o1, o2⟩ := mem_others.mp (h1.subset hy)
  exact mem_most.mpr ⟨o1, o2, letAll_iff.mpr fun a ha e l => (expl_iff.mp h2 a ha e).mp l y hy⟩
theorem expl_between {ns : List Str} {as : List An} {z : Str} {b c : List Str} (h : explB b as z = true) (h1 : ∀ y ∈ b, y ∈ c) (h2 : ∀ y ∈ c, y ∈ mostW ns as z) : explB c as z = true := expl_iff.mpr fun a ha e =>
  ⟨fun l y hy => letAll_iff.mp (mem_most.mp (h2 y hy)).2.2 a ha e l, fun k => (expl_iff.mp h a ha e).mpr fun y hy => k y (h1 y hy)⟩
theorem fit_iff {ns : List Str} {as : List An} {z : Str} : fitB ns as z ≠ [] ↔ explB (mostW ns as z) as z = true := by
  constructor
  · intro h
    obtain ⟨b, hb⟩ := List.exists_mem_of_ne_nil _ h
    exact expl_between (mem_fit.mp hb).2 (fit_most hb) fun y hy => hy
  · intro h e
    have : mostW ns as z ∈ fitB ns as z := mem_fit.mpr ⟨most_sub, h⟩
    rw [e] at this
    cases this
theorem notE {α : Type} {l : List α} : (!l.isEmpty) = true ↔ ∃ x, x ∈ l := by
  cases l with
  | nil => simp
  | cons x l => simp only [List.isEmpty_cons, Bool.not_false, true_iff]; exact ⟨x, List.mem_cons_self⟩
theorem isE {α : Type} {l : List α} : l.isEmpty = true ↔ ∀ x, x ∉ l := by
  cases l with
  | nil => simp
  | cons x l => simp only [List.isEmpty_cons, Bool.false_eq_true, false_iff]; exact fun h => h x List.mem_cons_self
theorem union_eq {ns : List Str} {as : List An} {z : Str} (h : explB (mostW ns as z) as z = true) : unionB ns (fitB ns as z) = mostW ns as z := by
  have e : mostW ns as z = ns.filter fun y => !decide (y = z) && letAll as z y := rfl
  rw [e]
  refine List.filter_congr fun y hy => ?_
  rw [Bool.eq_iff_iff, notE]
  have q : (!decide (y = z) && letAll as z y) = true ↔ y ∈ mostW ns as z := by
    rw [e, List.mem_filter]
    exact ⟨fun h => ⟨hy, h⟩, fun h => h.2⟩
  rw [q]
  constructor
  · rintro ⟨b, hb⟩
    obtain ⟨h1, h2⟩ := List.mem_filter.mp hb
    exact fit_most h1 y (of_decide_eq_true h2)
  · intro k
    exact ⟨mostW ns as z, List.mem_filter.mpr ⟨mem_fit.mpr ⟨most_sub, h⟩, decide_eq_true k⟩⟩
theorem common_eq {ns : List Str} {as : List An} {z : Str} (h : explB (mostW ns as z) as z = true) : commonB ns (fitB ns as z) = mustB (mostW ns as z) as z := by
  have e : mustB (mostW ns as z) as z = ns.filter fun y => !explB (othersB (mostW ns as z) y) as z && (!decide (y = z) && letAll as z y) := by
    show (ns.filter _).filter _ = _
    rw [List.filter_filter]
  rw [e]
  refine List.filter_congr fun y hy => ?_
  have q : (!decide (y = z) && letAll as z y) = true ↔ y ∈ mostW ns as z := by
    unfold mostW
    rw [List.mem_filter]
    exact ⟨fun h => ⟨hy, h⟩, fun h => h.2⟩
  rw [Bool.eq_iff_iff, isE, Bool.and_eq_true, q, Bool.not_eq_true']
  have sub : (othersB (mostW ns as z) y).Sublist (othersB ns z) := (List.filter_sublist).trans most_sub
  constructor
  · intro k
    have all : ∀ b ∈ fitB ns as z, y ∈ b := fun b hb => Classical.byContradiction fun n => k b (List.mem_filter.mpr ⟨hb, by rw [decide_eq_false n]; rfl⟩)
    refine ⟨?_, all _ (mem_fit.mpr ⟨most_sub, h⟩)⟩
    cases x : explB (othersB (mostW ns as z) y) as z with
    | false => rfl
    | true => exact absurd rfl (mem_others.mp (all _ (mem_fit.mpr ⟨sub, x⟩))).2
  · rintro ⟨n, m⟩ b hb
    obtain ⟨h1, h2⟩ := List.mem_filter.mp hb
    rw [Bool.not_eq_true', decide_eq_false_iff_not] at h2
    have x := expl_between (ns := ns) (c := othersB (mostW ns as z) y) (mem_fit.mp h1).2 (fun u hu => mem_others.mpr ⟨fit_most h1 u hu, fun e => h2 (e ▸ hu)⟩) fun u hu => (mem_others.mp hu).1
    rw [n] at x
    cases x
end Rt
end
section
set_option Elab.async false
set_option linter.all false
set_option maxRecDepth 100000
set_option maxHeartbeats 4000000
/-! told: is_ordered -/
namespace Rt
open PySem PySem.Spec PyProof.Rows L2
/-- a value as far as is_ordered sees it: a tuple of things, or something else -/
def Ov (K : PySem.W.Frag) (H : Hp) (x : V) : Option (List V) → Prop
  | some xs => ∃ b, x = .ref b ∧ SqT K H b xs ∧ (∀ y ∈ xs, ∃ T, Ts K H y T) ∧ xs.length ≤ 60
  | none => ∃ T, Ts K H x T ∧ T ≠ "tuple"
theorem Ov.same {K : PySem.W.Frag} {H H' : Hp} {x : V} {o : Option (List V)} (h : Ov K H x o) (s : Same H H') : Ov K H' x o := by
  cases o with
  | some xs =>
    obtain ⟨b, e, hb, ht, hl⟩ := h
    exact ⟨b, e, sqT_same s hb, fun y hy => let ⟨T, t⟩ := ht y hy; ⟨T, t.same s⟩, hl⟩
  | none =>
    obtain ⟨T, t, ne⟩ := h
    exact ⟨T, t.same s, ne⟩
def strsOf (xs : List V) : List Str := xs.filterMap strOf
theorem strsOf_map (ys : List Str) : strsOf (ys.map V.str) = ys := by
  unfold strsOf
  rw [List.filterMap_map]
  show ys.filterMap (fun y => some y) = ys
  induction ys with
  | nil => rfl
  | cons y ys ih => rw [List.filterMap_cons]; exact congrArg (y :: ·) ih
def ordO (ns : List Str) : Option (List V) → Bool
  | none => false
  | some xs => unlike ns xs && decide (strsOf xs = ns.filter fun z => decide (z ∈ strsOf xs))
theorem eqv_strs : ∀ ys zs : List Str, PyData.eqvAll (ys.map PyData.str) (zs.map PyData.str) = decide (ys = zs)
  | [], [] => by simp [PyData.eqvAll]
  | [], z :: zs => by simp [PyData.eqvAll]
  | y :: ys, [] => by simp [PyData.eqvAll]
  | y :: ys, z :: zs => by
    have ih := eqv_strs ys zs
    simp only [List.map_cons, PyData.eqvAll, PyData.eqv, ih]
    by_cases h : y = z
    · subst h
      simp
    · simp [h]
theorem shaped_tupS {zs : List Str} (h : Oks zs) : SeqAt.shaped (.tuple (zs.map PyData.str)) = true := by
  obtain ⟨h1, h2⟩ := lay_strs h
  refine shaped_of (by simp only [PyData.canLay0]; exact h1) ?_
  simp only [PyData.depth]
  omega
theorem Oks.filter {zs : List Str} (h : Oks zs) (p : Str → Bool) : Oks (zs.filter p) := fun z hz => h z (List.mem_filter.mp hz).1
theorem isOne_mem {ns : List Str} {z : Str} (h : isOne ns (.str z) = true) : z ∈ ns := of_decide_eq_true h
theorem unlike_back {ns : List Str} {xs : List V} (h : unlike ns xs = true) : xs = (strsOf xs).map V.str ∧ (∀ z ∈ strsOf xs, z ∈ ns) ∧ (strsOf xs).Nodup ∧ xs.length ≤ ns.length := by
  unfold unlike at h
  rw [Bool.and_eq_true, Bool.and_eq_true, Bool.not_eq_true', decide_eq_false_iff_not] at h
  obtain ⟨h1, h2, h3⟩ := h
  have e := strs_back h2
  refine ⟨e, fun z hz => ?_, of_decide_eq_true h3, by omega⟩
  have : V.str z ∈ xs := by
    rw [e]
    exact List.mem_map_of_mem hz
  exact isOne_mem (List.all_eq_true.mp h2 _ this)
def spOrd (K : PySem.W.Frag) : Sp := fun vs H Q _ => ∃ (n : Addr) (ns : List Str) (x : V) (o : Option (List V)), vs = [.ref n, x] ∧ Sq K H n (ns.map V.str) ∧ ns.length ≤ 60 ∧ Oks ns ∧ Ov K H x o ∧ ∀ H', Same H H' → Q (.bl (ordO ns o)) H'
section
variable {P : Program} {w : World} {K : PySem.W.Frag} {mg : Str → Option Value} {base : Heap}
theorem cal_is_ordered (Z : All K mg) : Cal P w K mg base CX0 3 "is_ordered" ["names", "value"] (spOrd K) := by
  obtain ⟨fd, F⟩ := Z.f_is_ordered
  have C_are_unlike : Cal P w K mg base CX0 2 "are_unlike" ["names", "values"] (spUnlike K) := cal_are_unlike Z
  refine .of ⟨fd, F, ok0 F sc_is_ordered (fun vs H Q E h => ?_) (fun cdv A outer s H vs Q E hr h => ?_)⟩ Z.g_is_ordered (fun _ _ _ _ _ _ us hl => match us, hl with | [_, _], _ => rfl)
  · obtain ⟨n, ns, x, o, rfl, _⟩ := h
    rfl
  · obtain ⟨n, ns, x, o, rfl, hn, h60, oks, ho, k⟩ := h
    refine ⟨_, (pss_cons (ps_if (PW.pt (pw_or (pt_not (pt_val (pe_callB (call_is (cn := "tuple") (by decide)) (by rfl) Z.b_isinstance boot_isinstance (pa_cons (pv 1) (pa_cons (pe_bltn (v := .ty "tuple") (by rfl) Z.b_tuple PyProof.Rows.boot_tuple rfl) pa_nil))))) (pw_or1 (pt_not (pt_val (pe_cal C_are_unlike (hr.mono (by decide)) (by rfl) pass0 (pa_cons (pv 0) (pa_cons (pv 1) pa_nil)))))))) (pss_one (ps_ret pe_bl)) pss_nil)
      (pss_one (ps_ret (pe_cmpR (op_eqD hr.units) (pv 1) (pe_callTy call_tuple_of (by rfl) Z.b_tuple PyProof.Rows.boot_tuple (pa_cons (pe_lc (own := [("name", 2)]) (by rfl) sc_is_ordered.nd (pi_seq (pv 0)) (blkOk_by (own := [("name", 2)]) (N := ["names", "value", "name"]) (sc := defScope s_is_ordered) (by decide +kernel)) (fun _ _ _ _ _ => (pg_name (i := 2) sc_is_ordered.nd rfl (Or.inl rfl))) (fun _ _ _ _ _ => (pts_one (pt_cmpR (show OpR _ (compareOp .In) (rIn K false) from op_in_seq) (pv 2) (pv 1) rfl))) (fun _ _ _ _ _ => (pv 2))) pa_nil)) (nomark _))))), ?_⟩
    cases o with
    | none =>
      obtain ⟨T, t, ne⟩ := ho
      refine ⟨_, rfl, x, T, rfl, t, _, rfl, ifT (by simp [answ, ne]) (k H (Same.refl H))⟩
    | some xs =>
      obtain ⟨b, rfl, hb, ht, hl⟩ := ho
      refine ⟨_, rfl, .ref b, "tuple", rfl, .tup hb, _, rfl, ifF (by decide) ⟨_, rfl, _, rfl, n, ns, b, xs, rfl, hn, .inr hb, ht, hl, h60, fun H1 s1 => ?_⟩⟩
      refine ⟨_, rfl, ifB (fun e => ?_) (fun e => ?_)⟩
      · have z : ordO ns (some xs) = false := by
          rw [Bool.not_eq_true'] at e
          show (unlike ns xs && _) = false
          rw [e]
          rfl
        rw [z] at k
        exact k H1 s1
      · rw [Bool.not_eq_false'] at e
        obtain ⟨back, inn, nd, ll⟩ := unlike_back e
        have hb1 := sqT_same s1 hb
        have hn1 := hn.same s1
        have hbs : SqT K H1 b ((strsOf xs).map V.str) := by
          rw [← back]
          exact hb1
        refine ⟨_, rfl, _, rfl, n, rfl, lc_seq hn1 (fun i => ((ns.take i).filter fun z => decide (z ∈ strsOf xs)).map V.str) rfl (fun D nD i y Hy hi' p => ?_) fun D H2 nD s2 at2 => ?_⟩
        · obtain ⟨z, rfl, hz⟩ := strs_get hi'
          refine ⟨rfl, _, rfl, _, rfl, b, (strsOf xs).map V.str, rfl, .inr (sqT_same p.same hbs), rfl, flat_strsV _, _, rfl, ?_⟩
          rw [inV_strs]
          by_cases e : z ∈ strsOf xs
          · refine ifT (decide_eq_true e) ⟨_, rfl, p.put nD (filt_one V.str _ hz (decide_eq_true e)) (line_of (m := 60) ?_ (by decide))⟩
            rw [List.length_map]
            exact Nat.le_trans (List.length_filter_le _ _) (Nat.le_trans (List.length_take_le' _ _) h60)
          · exact ifF (decide_eq_false e) (p.skip (filt_no V.str _ hz (decide_eq_false e)))
        · rw [List.length_map, List.take_length] at at2
          refine ⟨D, _, rfl, .inl ⟨SqL.of at2, fun t nt => ?_⟩⟩
          refine ⟨.tuple ((strsOf xs).map PyData.str), .tuple ((ns.filter fun z => decide (z ∈ strsOf xs)).map PyData.str), .tup (sqT_same (s2.trans (Same.new nt)) hbs) (dpAll_strs _), .tup (SqT.of upd_same) (dpAll_strs _), shaped_tupS fun z hz => oks z (inn z hz), shaped_tupS (oks.filter _), ?_⟩
          have z : ordO ns (some xs) = PyData.eqv (.tuple ((strsOf xs).map PyData.str)) (.tuple ((ns.filter fun z => decide (z ∈ strsOf xs)).map PyData.str)) := by
            show (unlike ns xs && _) = _
            rw [e, Bool.true_and]
            simp only [PyData.eqv]
            rw [eqv_strs]
          rw [z] at k
          exact k _ ((s1.trans s2).trans (Same.new nt))
end
end Rt
end
section
set_option Elab.async false
set_option linter.all false
set_option maxRecDepth 100000
set_option maxHeartbeats 4000000
/-! told: names and answers that are right -/
namespace Rt
open PySem PySem.Spec PyProof.Rows L2
/-- a build that stands in the order of some unlike names is what they have of it -/
theorem filter_sub : ∀ {ns b : List Str}, b.Sublist ns → ns.Nodup → ns.filter (fun z => decide (z ∈ b)) = b
  | _, _, .slnil, _ => rfl
  | _, b, .cons (l₂ := ns) z h, nd => by
    have nd' := List.nodup_cons.mp nd
    have nz : z ∉ b := fun q => nd'.1 (h.subset q)
    rw [List.filter_cons_of_neg (by rw [decide_eq_false nz]; decide)]
    exact filter_sub h nd'.2
  | _, _, .cons₂ (l₁ := b) (l₂ := ns) z h, nd => by
    have nd' := List.nodup_cons.mp nd
    rw [List.filter_cons_of_pos (by rw [decide_eq_true List.mem_cons_self])]
    congr 1
    have ih := filter_sub h nd'.2
    have e : ns.filter (fun y => decide (y ∈ z :: b)) = ns.filter (fun y => decide (y ∈ b)) := by
      refine List.filter_congr fun y hy => ?_
      have ne : y ≠ z := fun q => nd'.1 (q ▸ hy)
      rw [decide_eq_decide, List.mem_cons]
      exact ⟨fun q => q.resolve_left ne, .inr⟩
    rw [e, ih]
/-- an answer: a build, a skill, whether it was let -/
def AnT (H : Hp) (x : V) (a : An) : Prop := ∃ q r, x = .ref q ∧ H q = some (.tup [.ref r, .str a.skill, .bl a.lets]) ∧ H r = some (.tup (a.build.map V.str))
theorem ant_mono : TkMono AnT := fun H H' x a k ⟨q, r, e, h1, h2⟩ => ⟨q, r, e, k _ _ h1, k _ _ h2⟩
structure AnR (ns : List Str) (a : An) : Prop where
  skill : a.skill ∈ ns
  not_ : a.skill ∉ a.build
  sub : a.build.Sublist ns
structure Nm (ns : List Str) : Prop where
  nd : ns.Nodup
  ge : 1 ≤ ns.length
  le : ns.length ≤ 12
  words : ∀ z ∈ ns, isWord (.str z) = true ∧ z.length ≤ 1000
  oks : Oks ns
/-- names and answers that are right -/
structure Told (K : PySem.W.Frag) (H : Hp) (n : Addr) (ns : List Str) (s : Addr) (as : List An) : Prop where
  names : Lt K H n (ns.map V.str)
  nm : Nm ns
  seen : ∃ xs, Lt K H s xs ∧ Paired (AnT H) xs as
  ok : ∀ a ∈ as, AnR ns a
  le : as.length ≤ 60
theorem Told.same {K : PySem.W.Frag} {H H' : Hp} {n s : Addr} {ns : List Str} {as : List An} (h : Told K H n ns s as) (e : Same H H') : Told K H' n ns s as :=
  ⟨h.names.same e, h.nm, let ⟨xs, l, p⟩ := h.seen; ⟨xs, l.same e, paired_mono (fun x w q => ant_mono _ _ _ _ (Tk.of e) q) p⟩, h.ok, h.le⟩
theorem unlike_of {ns b : List Str} (h : b.length ≤ ns.length) (inn : ∀ z ∈ b, z ∈ ns) (nd : b.Nodup) : unlike ns (b.map V.str) = true := by
  unfold unlike
  rw [Bool.and_eq_true, Bool.and_eq_true, Bool.not_eq_true', decide_eq_false_iff_not]
  refine ⟨by rw [List.length_map]; omega, ?_, ?_⟩
  · rw [List.all_eq_true]
    intro x hx
    obtain ⟨z, hz, rfl⟩ := List.mem_map.mp hx
    exact decide_eq_true (inn z hz)
  · have := strsOf_map b
    unfold strsOf at this
    rw [this]
    exact decide_eq_true nd
theorem ord_sub {ns b : List Str} (nd : ns.Nodup) (h : b.Sublist ns) : ordO ns (some (b.map V.str)) = true := by
  show (unlike ns (b.map V.str) && decide (strsOf (b.map V.str) = ns.filter fun z => decide (z ∈ strsOf (b.map V.str)))) = true
  rw [unlike_of h.length_le (fun z hz => h.subset hz) (nd.sublist h), strsOf_map, filter_sub h nd]
  simp
theorem ov_tup {K : PySem.W.Frag} {H : Hp} {r : Addr} {b : List Str} (h : H r = some (.tup (b.map V.str))) (l : b.length ≤ 60) : Ov K H (.ref r) (some (b.map V.str)) :=
  ⟨r, rfl, SqT.of h, fun y hy => let ⟨z, _, e⟩ := List.mem_map.mp hy; ⟨"str", e ▸ Ts.str z⟩, by rw [List.length_map]; exact l⟩
theorem ps_dead {X : Cx} {st : Stmt} : PS X st (fun _ _ _ => False) := ⟨fun _ _ _ _ _ _ h => h.elim⟩
theorem lt_is {K : PySem.W.Frag} {H : Hp} {a : Addr} {xs : List V} (h : Lt K H a xs) : ∃ T, Ts K H (.ref a) T ∧ (decide (T = "list") || decide (T = "tuple")) = true := by
  obtain ⟨T, t, e⟩ := h.ty
  refine ⟨T, t, ?_⟩
  rcases e with rfl | rfl <;> decide
theorem all_trues {α : Type} {f : α → Bool} {xs : List α} (h : ∀ x ∈ xs, f x = true) : (xs.map f).all id = true := by
  rw [List.all_eq_true]
  intro b hb
  obtain ⟨x, hx, rfl⟩ := List.mem_map.mp hb
  exact h x hx
def spMbn (K : PySem.W.Frag) : Sp := fun vs H Q _ => ∃ (n : Addr) (ns : List Str), vs = [.ref n] ∧ Lt K H n (ns.map V.str) ∧ Nm ns ∧ ∀ H', Same H H' → Q .non H'
def spAns (K : PySem.W.Frag) : Sp := fun vs H Q _ => ∃ (n : Addr) (ns : List Str) (x : V) (a : An), vs = [.ref n, x] ∧ Lt K H n (ns.map V.str) ∧ Nm ns ∧ AnT H x a ∧ AnR ns a ∧ ∀ H', Same H H' → Q (.bl true) H'
def spSeen (K : PySem.W.Frag) : Sp := fun vs H Q _ => ∃ (n : Addr) (ns : List Str) (s : Addr) (as : List An), vs = [.ref n, .ref s] ∧ Told K H n ns s as ∧ ∀ H', Same H H' → Q (.bl true) H'
def spMbs (K : PySem.W.Frag) : Sp := fun vs H Q _ => ∃ (n : Addr) (ns : List Str) (s : Addr) (as : List An), vs = [.ref n, .ref s] ∧ Told K H n ns s as ∧ ∀ H', Same H H' → Q .non H'
section
variable {P : Program} {w : World} {K : PySem.W.Frag} {mg : Str → Option Value} {base : Heap}
theorem cal_must_be_names (Z : All K mg) : Cal P w K mg base CX0 3 "must_be_names" ["names"] (spMbn K) := by
  obtain ⟨fd, F⟩ := Z.f_must_be_names
  have C_is_word : Cal P w K mg base CX0 1 "is_word" ["value"] (spWord K) := cal_is_word Z
  have C_are_unlike : Cal P w K mg base CX0 2 "are_unlike" ["names", "values"] (spUnlike K) := cal_are_unlike Z
  refine .of ⟨fd, F, ok0 F sc_must_be_names (fun vs H Q E h => ?_) (fun cdv A outer s H vs Q E hr h => ?_)⟩ Z.g_must_be_names (fun _ _ _ _ _ _ us hl => match us, hl with | [_], _ => rfl)
  · obtain ⟨n, ns, rfl, _⟩ := h
    rfl
  · obtain ⟨n, ns, rfl, hn, nm, k⟩ := h
    have l1 := nm.ge
    have l2 := nm.le
    refine ⟨_, (pss_cons (ps_if (PW.pt (pw_or (pt_not (pt_val (pe_callB call_isLT (by rfl) Z.b_isinstance boot_isinstance (pa_cons (pv 0) (pa_cons (pe_tup (pa_cons (pe_bltn (v := .ty "list") (by rfl) Z.b_list PyProof.Rows.boot_list rfl) (pa_cons (pe_bltn (v := .ty "tuple") (by rfl) Z.b_tuple PyProof.Rows.boot_tuple rfl) pa_nil))) pa_nil))))) (pw_or1 (pt_not (pt_chain op_le op_le pe_int (pe_callB call_len (by rfl) Z.b_len PySem.boot_len (pa_cons (pv 0) pa_nil)) (pe_gint (by rfl) Z.MOST_SKILLS)))))) (pss_one ps_dead) pss_nil)
      (pss_one (ps_if (PW.pt (pw_or (pt_not (pt_val (pe_callB (cr_all rfl) (by rfl) Z.b_all boot_all (pa_cons (pe_lc (own := [("name", 1)]) (by rfl) sc_must_be_names.nd (pi_seq (pv 0)) (blkOk_by (own := [("name", 1)]) (N := ["names", "name"]) (sc := defScope s_must_be_names) (by decide +kernel)) (fun _ _ _ _ _ => (pg_name (i := 1) sc_must_be_names.nd rfl (Or.inl rfl))) (fun _ _ _ _ _ => pts_nil) (fun _ _ _ _ _ => (pe_cal C_is_word (hr.mono (by decide)) (by rfl) pass0 (pa_cons (pv 1) pa_nil)))) pa_nil)))) (pw_or1 (pt_not (pt_val (pe_cal C_are_unlike (hr.mono (by decide)) (by rfl) pass0 (pa_cons (pv 0) (pa_cons (pv 0) pa_nil)))))))) (pss_one ps_dead) pss_nil))), ?_⟩
    refine ⟨_, rfl, (by show 2 ≤ sizeLine; decide), fun tp ntp => ?_⟩
    have s1 : Same H (upd H tp (.tup [.ty "list", .ty "tuple"])) := Same.new ntp
    obtain ⟨H1, e1⟩ : ∃ H1, H1 = upd H tp (.tup [.ty "list", .ty "tuple"]) := ⟨_, rfl⟩
    have at1 : H1 tp = some (.tup [.ty "list", .ty "tuple"]) := by rw [e1]; exact upd_same
    rw [← e1] at s1 ⊢
    have hn1 := hn.same s1
    obtain ⟨T, t, eT⟩ := lt_is hn1
    refine ⟨.ref n, T, tp, rfl, at1, t, _, rfl, ?_⟩
    rw [eT]
    refine ifF rfl ⟨_, rfl, _, (ns.map V.str).length, rfl, lenV_sq hn1.sq, _, _, rfl, rfl, _, rfl, ?_⟩
    rw [List.length_map]
    refine ifT (decide_eq_true (by omega)) ⟨_, _, rfl, rfl, _, rfl, ?_⟩
    show if (!decide ((ns.length : Int) ≤ 12)) = true then _ else _
    refine ifF (by rw [decide_eq_true (by omega)]; rfl) ?_
    refine ⟨_, rfl, n, rfl, lc_seq hn1.sq (fun i => (ns.take i).map fun _ => V.bl true) rfl (fun D nD i y Hy hi' p => ?_) fun D H2 nD s2 at2 => ?_⟩
    · obtain ⟨z, rfl, hz⟩ := strs_get hi'
      have wz := nm.words z (List.mem_of_getElem? hz)
      refine ⟨rfl, _, rfl, .str z, "str", rfl, .str z, fun y e => ?_, fun H3 s3 => ?_⟩
      · cases e
        exact wz.2
      · rw [wz.1]
        exact (p.ext s3).put nD (map_one _ hz) (take_line _ (m := 12) nm.le (by decide))
    · rw [List.length_map, List.take_length] at at2
      have hn2 := hn1.same s2
      refine ⟨D, ns.map fun _ => true, rfl, SqL.of (by rw [at2, List.map_map]; rfl), _, rfl, ?_⟩
      rw [all_trues (fun _ _ => rfl)]
      refine ifF rfl ⟨_, rfl, _, rfl, n, ns, n, ns.map V.str, rfl, hn2.sq, hn2.sq, fun x hx => ?_, by rw [List.length_map]; omega, by omega, fun H3 s3 => ?_⟩
      · obtain ⟨z, _, rfl⟩ := List.mem_map.mp hx
        exact ⟨_, .str z⟩
      · rw [unlike_of (Nat.le_refl _) (fun z hz => hz) nm.nd]
        exact ⟨_, rfl, ifF rfl (k _ ((s1.trans s2).trans s3))⟩
theorem cal_is_answer (Z : All K mg) : Cal P w K mg base CX0 4 "is_answer" ["names", "row"] (spAns K) := by
  obtain ⟨fd, F⟩ := Z.f_is_answer
  have C_is_ordered : Cal P w K mg base CX0 3 "is_ordered" ["names", "value"] (spOrd K) := cal_is_ordered Z
  have C_is_one_of : Cal P w K mg base CX0 1 "is_one_of" ["names", "value"] (spOne K) := cal_is_one_of Z
  refine .of ⟨fd, F, ok0 F sc_is_answer (fun vs H Q E h => ?_) (fun cdv A outer s H vs Q E hr h => ?_)⟩ Z.g_is_answer (fun _ _ _ _ _ _ us hl => match us, hl with | [_, _], _ => rfl)
  · obtain ⟨n, ns, x, a, rfl, _⟩ := h
    rfl
  · obtain ⟨n, ns, x, a, rfl, hn, nm, ⟨q, r, rfl, hq, hr'⟩, ok, k⟩ := h
    have l2 := nm.le
    have lb : a.build.length ≤ ns.length := ok.sub.length_le
    refine ⟨_, (pss_cons (ps_if (PW.pt (pw_or (pt_not (pt_val (pe_callB (call_is (cn := "tuple") (by decide)) (by rfl) Z.b_isinstance boot_isinstance (pa_cons (pv 1) (pa_cons (pe_bltn (v := .ty "tuple") (by rfl) Z.b_tuple PyProof.Rows.boot_tuple rfl) pa_nil))))) (pw_or1 (pt_cmpR op_ne (pe_callB call_len (by rfl) Z.b_len PySem.boot_len (pa_cons (pv 1) pa_nil)) pe_int (nomark _))))) (pss_one (ps_ret pe_bl)) pss_nil)
      (pss_cons (ps_asg (pv 1) (pg_tup rfl (pgs_cons (pg_name (i := 2) sc_is_answer.nd rfl (Or.inl rfl)) (pgs_cons (pg_name (i := 3) sc_is_answer.nd rfl (Or.inl rfl)) (pgs_cons (pg_name (i := 4) sc_is_answer.nd rfl (Or.inl rfl)) pgs_nil)))))
      (pss_cons (ps_if (PW.pt (pw_or (pt_not (pt_val (pe_cal C_is_ordered (hr.mono (by decide)) (by rfl) pass0 (pa_cons (pv 0) (pa_cons (pv 2) pa_nil))))) (pw_or (pt_not (pt_val (pe_cal C_is_one_of (hr.mono (by decide)) (by rfl) pass0 (pa_cons (pv 0) (pa_cons (pv 3) pa_nil))))) (pw_or1 (pt_cmpR op_in_seq (pv 3) (pv 2) rfl))))) (pss_one (ps_ret pe_bl)) pss_nil)
      (pss_one (ps_ret (pe_or (pe_cmpR op_isBl (pv 4) pe_bl (nomark _)) (pe_one (pe_cmpR op_isBl (pv 4) pe_bl (nomark _))))))))), ?_⟩
    refine ⟨_, rfl, .ref q, "tuple", rfl, .tup (SqT.of hq), _, rfl, ifF (by decide) ?_⟩
    refine ⟨_, rfl, _, 3, rfl, .inr ⟨_, SqT.of hq, rfl⟩, rfl, _, rfl, ?_⟩
    refine ifF (by decide) ?_
    refine ⟨_, rfl, q, _, rfl, SqT.of hq, rfl, _, _, rfl, _, _, rfl, _, _, rfl, rfl, ?_⟩
    refine ⟨_, rfl, _, rfl, n, ns, .ref r, some (a.build.map V.str), rfl, hn.sq, by omega, nm.oks, ov_tup hr' (by omega), fun H1 s1 => ?_⟩
    rw [ord_sub nm.nd ok.sub]
    refine ⟨_, rfl, ifF rfl ⟨_, rfl, _, rfl, n, ns, .str a.skill, "str", rfl, hn.sq.same s1, .str _, ?_⟩⟩
    have e1 : isOne ns (.str a.skill) = true := decide_eq_true ok.skill
    rw [e1]
    refine ⟨_, rfl, ifF rfl ⟨_, rfl, _, rfl, r, _, rfl, .inr (SqT.of (s1 _ _ hr')), rfl, flat_strsV _, _, rfl, ?_⟩⟩
    rw [inV_strs, decide_eq_false ok.not_]
    refine ifF rfl ⟨_, rfl, _, _, rfl, rfl, _, rfl, ?_⟩
    cases a.lets with
    | true => exact ifT rfl (k _ s1)
    | false => exact ifF rfl ⟨_, rfl, _, _, rfl, rfl, k _ s1⟩
theorem cal_is_seen (Z : All K mg) : Cal P w K mg base CX0 5 "is_seen" ["names", "value"] (spSeen K) := by
  obtain ⟨fd, F⟩ := Z.f_is_seen
  have C_must_be_names : Cal P w K mg base CX0 3 "must_be_names" ["names"] (spMbn K) := cal_must_be_names Z
  have C_is_answer : Cal P w K mg base CX0 4 "is_answer" ["names", "row"] (spAns K) := cal_is_answer Z
  refine .of ⟨fd, F, ok0 F sc_is_seen (fun vs H Q E h => ?_) (fun cdv A outer s H vs Q E hr h => ?_)⟩ Z.g_is_seen (fun _ _ _ _ _ _ us hl => match us, hl with | [_, _], _ => rfl)
  · obtain ⟨n, ns, s, as, rfl, _⟩ := h
    rfl
  · obtain ⟨n, ns, sa, as, rfl, td, k⟩ := h
    refine ⟨_, (pss_cons (ps_expr (pe_cal C_must_be_names (hr.mono (by decide)) (by rfl) pass0 (pa_cons (pv 0) pa_nil)))
      (pss_one (ps_ret (pe_and (pe_callB call_isLT (by rfl) Z.b_isinstance boot_isinstance (pa_cons (pv 1) (pa_cons (pe_tup (pa_cons (pe_bltn (v := .ty "list") (by rfl) Z.b_list PyProof.Rows.boot_list rfl) (pa_cons (pe_bltn (v := .ty "tuple") (by rfl) Z.b_tuple PyProof.Rows.boot_tuple rfl) pa_nil))) pa_nil))) (pe_one (pe_callB (cr_all rfl) (by rfl) Z.b_all boot_all (pa_cons (pe_lc (own := [("row", 2)]) (by rfl) sc_is_seen.nd (pi_seq (pv 1)) (blkOk_by (own := [("row", 2)]) (N := ["names", "value", "row"]) (sc := defScope s_is_seen) (by decide +kernel)) (fun _ _ _ _ _ => (pg_name (i := 2) sc_is_seen.nd rfl (Or.inl rfl))) (fun _ _ _ _ _ => pts_nil) (fun _ _ _ _ _ => (pe_cal C_is_answer (hr.mono (by decide)) (by rfl) pass0 (pa_cons (pv 0) (pa_cons (pv 2) pa_nil))))) pa_nil))))))), ?_⟩
    refine ⟨_, rfl, n, ns, rfl, td.names, td.nm, fun H1 s1 => ?_⟩
    refine ⟨_, rfl, (by show 2 ≤ sizeLine; decide), fun tp ntp => ?_⟩
    have s2 : Same H (upd H1 tp (.tup [.ty "list", .ty "tuple"])) := s1.trans (Same.new ntp)
    obtain ⟨H2, e2⟩ : ∃ H2, H2 = upd H1 tp (.tup [.ty "list", .ty "tuple"]) := ⟨_, rfl⟩
    have at2 : H2 tp = some (.tup [.ty "list", .ty "tuple"]) := by rw [e2]; exact upd_same
    rw [← e2] at s2 ⊢
    have td2 := td.same s2
    obtain ⟨xs, hs, ps⟩ := td2.seen
    obtain ⟨T, t, eT⟩ := lt_is hs
    refine ⟨.ref sa, T, tp, rfl, at2, t, _, rfl, ?_⟩
    rw [eT]
    have lx : xs.length = as.length := Paired.length ps
    have la := td.le
    refine ifT rfl ⟨_, rfl, sa, rfl, lc_seq hs.sq (fun i => (xs.take i).map fun _ => V.bl true) rfl (fun D nD i y Hy hi' p => ?_) fun D H3 nD s3 at3 => ?_⟩
    · obtain ⟨a, ha, q⟩ := paired_at ps hi'
      refine ⟨rfl, _, rfl, _, rfl, n, ns, y, a, rfl, td2.names.same p.same, td.nm, ant_mono _ _ _ _ (Tk.of p.same) q, td.ok a (List.mem_of_getElem? ha), fun H3 s3 => ?_⟩
      exact (p.ext s3).put nD (map_one _ hi') (take_line _ (m := 60) (by omega) (by decide))
    · rw [List.take_length] at at3
      refine ⟨D, xs.map fun _ => true, rfl, SqL.of (by rw [at3, List.map_map]; rfl), ?_⟩
      rw [all_trues (fun _ _ => rfl)]
      exact k _ (s2.trans s3)
theorem cal_must_be_seen (Z : All K mg) : Cal P w K mg base CX0 6 "must_be_seen" ["names", "seen"] (spMbs K) := by
  obtain ⟨fd, F⟩ := Z.f_must_be_seen
  have C_is_seen : Cal P w K mg base CX0 5 "is_seen" ["names", "value"] (spSeen K) := cal_is_seen Z
  refine .of ⟨fd, F, ok0 F sc_must_be_seen (fun vs H Q E h => ?_) (fun cdv A outer s H vs Q E hr h => ?_)⟩ Z.g_must_be_seen (fun _ _ _ _ _ _ us hl => match us, hl with | [_, _], _ => rfl)
  · obtain ⟨n, ns, s, as, rfl, _⟩ := h
    rfl
  · obtain ⟨n, ns, sa, as, rfl, td, k⟩ := h
    refine ⟨_, (pss_one (ps_if (pt_not (pt_val (pe_cal C_is_seen (hr.mono (by decide)) (by rfl) pass0 (pa_cons (pv 0) (pa_cons (pv 1) pa_nil))))) (pss_one ps_dead) pss_nil)), ?_⟩
    refine ⟨_, rfl, _, rfl, n, ns, sa, as, rfl, td, fun H1 s1 => ⟨_, rfl, ifF rfl (k _ s1)⟩⟩
end
end Rt
end
section
set_option Elab.async false
set_option linter.all false
set_option maxRecDepth 100000
set_option maxHeartbeats 4000000
/-! name = {k: v for ..} -/
namespace Rt
open PySem PySem.Spec PyProof.Rows L2
theorem sw_trueD {kx vx : Expr} {gs : List Comprehension} {scope : Scope} {pos py : Pos} {y : Str} {l : Nat} {env : Env} (hk : env.scope.kind = .function) (hy : env.scope.names.lookup y = some .local) (hl : (py.line == pos.line) = true)
    (ha : (scope.names.any fun (n, k) => n == y && (k == .local || k == .cell)) = false) : swapsWith (.DictComp kx vx gs scope pos) (some (.Name y py)) l env = pure true := by
  have ky : env.kindOf y = some .local := hy
  have hb : env.blockKind = .function := by unfold Env.blockKind; rw [hk]; rfl
  unfold swapsWith
  simp only [hb, ky, ha, Expr.pos, hl]
  rfl
section
variable {X : Cx}
theorem ps_setDc {i : Nat} {y : Str} {py : Pos} {kx vx tg iter : Expr} {ifs : List Expr} {scope : Scope} {own : List (Str × Nat)} {pos spos : Pos} {wi : TI} {g : TG} {tt : TT} {tk tv : TE} (hc : X.calm = true) (hN : X.N.Nodup) (hy : X.N[i]? = some y) (hyl : X.env.scope.names.lookup y = some .local)
    (hsw : swapsWith (.DictComp kx vx [⟨tg, iter, ifs, 0⟩] scope pos) (some (.Name y py)) spos.line X.env = pure true) (hi : PI X tg iter wi) (ok : BlkOk X.N X.env.scope scope own)
    (hg : ∀ (s : Shared) (H : Hp) (C : Addr) (cl : List (Str × Addr)) (fp : List Addr), PG (X.blk s H scope (compEnvC scope cl C X.env) fp) tg g) (ht : ∀ (s : Shared) (H : Hp) (C : Addr) (cl : List (Str × Addr)) (fp : List Addr), PTs (X.blk s H scope (compEnvC scope cl C X.env) fp) ifs tt)
    (hk : ∀ (s : Shared) (H : Hp) (C : Addr) (cl : List (Str × Addr)) (fp : List Addr), PE (X.blk s H scope (compEnvC scope cl C X.env) fp) kx tk)
    (he : ∀ (s : Shared) (H : Hp) (C : Addr) (cl : List (Str × Addr)) (fp : List Addr), PE (X.blk s H scope (compEnvC scope cl C X.env) fp) vx tv) (hs : ∀ x, foldedSetIterable iter X.env x = pure x := by intro _; rfl) :
    PS X (.Assign [.Name y py] (.DictComp kx vx [⟨tg, iter, ifs, 0⟩] scope pos) spos) (tAsg (tDc wi g tt tk tv (own.map (·.2))) (gName i)) := by
  refine ⟨fun pins s σ H D I h => ?_⟩
  rw [exec_Assign_Name_used _ _ _ _ hsw]
  refine wpAny_bind (wpAny_standAt (wpAny_bind ?_))
  show wpAny _ X.A (do let _ ← comprehension (.DictComp kx vx [⟨tg, iter, ifs, 0⟩] scope pos) scope X.env (firstIterPos [⟨tg, iter, ifs, 0⟩] pos) newDict false (eval iter X.env) (some (assign (.Name y py) X.env))) _ _ s
  have h : tDc wi g tt tk tv (own.map (·.2)) σ H (fun x H1 => gName i x σ H1 D.nx) := h
  refine wpAny_bind (thn (dc_core (Qf := fun _ s' => SP X pins D .next s') hc hN I hi ok hg ht hk he hs h fun L C s' m H' I' q hn f => ?_) fun _ s' hq => wpAny_pure (wpAny_pure hq))
  show wpAny _ _ (assign (.Name y py) X.env (.ref L)) _ _ _
  refine wpAny_assign_Name (store_ok2 (v := V.ref L) I' hN hy (.inl hyl) rfl (fun s2 I2 ⟨a, sb, ha⟩ => ?_) (.inr hyl))
  obtain ⟨f0, f1, f2, f3, f4, f5⟩ := f
  have haC : C ≠ a := by
    rcases ha with z | z
    · rw [z]; exact f1
    · exact fun e => f4 y a z e.symm
  refine ⟨m, hn.sameBut sb haC, fun h3 sb3 => ?_⟩
  exact ⟨_, H', I2.turned (t' := s2.toks) (fun b o hb e => (sb3.2 b hb).trans e) f0 f1 f3 f4 f5, q⟩
end
/-- over a list or a tuple, its turns making new things -/
abbrev DcR (g : TG) (tt : TT) (tk tv : TE) (vs : List Nat) (σ : L2.St) (Q : Addr → Hp → Prop) : It → Hp → Prop := fun J H1 => ∀ D, H1 D = none → ∃ W : Nat → Nat → Hp → Prop, (∃ m, W 0 m (upd H1 D (.dK []))) ∧ ∀ i m H, W i m H →
  (J.stop i H ∧ Q D H) ∨ (J.go i H ∧ ∃ Nx : Hp → Prop, (∀ H', Nx H' → ∃ m', m' < m ∧ W (i + 1) m' H') ∧ ∀ x H', J.yld i H x H' → g x (wipe σ vs) H' fun σ2 H2 => wipe σ2 vs = wipe σ vs ∧ tt σ2 H2 fun b H3 =>
    if b = true then tk σ2 H3 fun y H4 => tv σ2 H4 fun z H5 => ∃ kvs k, y = kV k ∧ H5 D = some (.dK kvs) ∧ kvs.length < sizeLine ∧ Nx (upd H5 D (.dK (putK kvs k z))) else Nx H3)
theorem dc_it {J : It} {n : Nat} {G : Hp → Prop} {Y : Nat → Hp → V → Hp → Prop} (w : Walk J n G Y) {g : TG} {tt : TT} {tk tv : TE} {vs : List Nat} {σ : L2.St} {H1 : Hp} {D : Addr} {Qd : Hp → Prop} (Pv : Nat → Hp → Prop) (h0 : Pv 0 (upd H1 D (.dK []))) (hG : ∀ i H, i ≤ n → Pv i H → G H)
    (hs : ∀ i x H H', i < n → Pv i H → Y i H x H' → g x (wipe σ vs) H' fun σ2 H2 => wipe σ2 vs = wipe σ vs ∧ tt σ2 H2 fun b H3 =>
      if b = true then tk σ2 H3 fun y H4 => tv σ2 H4 fun z H5 => ∃ kvs k, y = kV k ∧ H5 D = some (.dK kvs) ∧ kvs.length < sizeLine ∧ Pv (i + 1) (upd H5 D (.dK (putK kvs k z))) else Pv (i + 1) H3)
    (hd : ∀ H, Pv n H → Qd H) :
    ∃ W : Nat → Nat → Hp → Prop, (∃ m, W 0 m (upd H1 D (.dK []))) ∧ ∀ i m H, W i m H →
      (J.stop i H ∧ Qd H) ∨ (J.go i H ∧ ∃ Nx : Hp → Prop, (∀ H', Nx H' → ∃ m', m' < m ∧ W (i + 1) m' H') ∧ ∀ x H', J.yld i H x H' → g x (wipe σ vs) H' fun σ2 H2 => wipe σ2 vs = wipe σ vs ∧ tt σ2 H2 fun b H3 =>
        if b = true then tk σ2 H3 fun y H4 => tv σ2 H4 fun z H5 => ∃ kvs k, y = kV k ∧ H5 D = some (.dK kvs) ∧ kvs.length < sizeLine ∧ Nx (upd H5 D (.dK (putK kvs k z))) else Nx H3) := by
  refine ⟨fun i m H => m = n - i ∧ i ≤ n ∧ Pv i H, ⟨n, by simp, Nat.zero_le _, h0⟩, ?_⟩
  rintro i m H ⟨rfl, hi, p⟩
  have q := hG i H hi p
  by_cases hlt : i < n
  · refine .inr ⟨w.goes i H hlt q, Pv (i + 1), fun H' p' => ⟨n - (i + 1), by omega, rfl, hlt, p'⟩, fun x H' y => hs i x H H' hlt p (w.yields i H x H' hlt q y)⟩
  · have e : i = n := by omega
    subst e
    exact .inl ⟨w.stops H q, hd H p⟩
theorem dc_seqS {K : PySem.W.Frag} {H1 : Hp} {a : Addr} {xs : List V} {g : TG} {tt : TT} {tk tv : TE} {vs : List Nat} {σ : L2.St} {Q : Addr → Hp → Prop} (h : Sq K H1 a xs) (P : Addr → Nat → Hp → Prop) (h0 : ∀ D, H1 D = none → P D 0 (upd H1 D (.dK [])))
    (hs : ∀ D i H, P D i H → Same H1 H)
    (turn : ∀ D, H1 D = none → ∀ i x H, xs[i]? = some x → P D i H → g x (wipe σ vs) H fun σ2 H2 => wipe σ2 vs = wipe σ vs ∧ tt σ2 H2 fun b H3 =>
      if b = true then tk σ2 H3 fun y H4 => tv σ2 H4 fun z H5 => ∃ kvs k, y = kV k ∧ H5 D = some (.dK kvs) ∧ kvs.length < sizeLine ∧ P D (i + 1) (upd H5 D (.dK (putK kvs k z))) else P D (i + 1) H3)
    (fin : ∀ D H, H1 D = none → P D xs.length H → Q D H) :
    ((∃ xs, SqL K H1 a xs) ∧ DcR g tt tk tv vs σ Q (Itl K a) H1) ∨ ((∃ xs, SqT K H1 a xs) ∧ DcR g tt tk tv vs σ Q (Itt K a) H1) := by
  refine seq_by (R := DcR g tt tk tv vs σ Q) h fun J G w g0 D nD => ?_
  refine dc_it w (P D) (h0 D nD) (fun i H _ p => g0 H (hs D i H p)) ?_ (fun H p => fin D H nD p)
  rintro i x H2 H3 hi p ⟨rfl, hx⟩
  exact turn D nD i x H3 hx p
end Rt
end
section
set_option Elab.async false
set_option linter.all false
set_option maxRecDepth 100000
set_option maxHeartbeats 4000000
/-! told: what explains the answers of a skill -/
namespace Rt
open PySem PySem.Spec PyProof.Rows L2
def PaT (H : Hp) (x : V) (p : List Str × Bool) : Prop := ∃ q r, x = .ref q ∧ H q = some (.tup [.ref r, .bl p.2]) ∧ H r = some (.tup (p.1.map V.str))
theorem pat_mono : TkMono PaT := fun H H' x p k ⟨q, r, e, h1, h2⟩ => ⟨q, r, e, k _ _ h1, k _ _ h2⟩
def spExpl (K : PySem.W.Frag) : Sp := fun vs H Q _ => ∃ (wa sa : Addr) (b : List Str) (z : Str) (xs : List V) (as : List An), vs = [.ref wa, .ref sa, .str z] ∧ Sq K H wa (b.map V.str) ∧ b.length ≤ 60 ∧ Sq K H sa xs ∧ Paired (AnT H) xs as ∧ as.length ≤ 60 ∧ ∀ H', Same H H' → Q (.bl (explB b as z)) H'
def spMost (K : PySem.W.Frag) : Sp := fun vs H Q _ => ∃ (n sa : Addr) (ns : List Str) (z : Str) (xs : List V) (as : List An), vs = [.ref n, .ref sa, .str z] ∧ Sq K H n (ns.map V.str) ∧ ns.length ≤ 60 ∧ Sq K H sa xs ∧ Paired (AnT H) xs as ∧ as.length ≤ 60 ∧ ∀ p H', Same H H' → H' p = some (.tup ((mostW ns as z).map V.str)) → Q (.ref p) H'
section
variable {P : Program} {w : World} {K : PySem.W.Frag} {mg : Str → Option Value} {base : Heap}
theorem cal_is_explained (Z : All K mg) : Cal P w K mg base CX0 1 "is_explained" ["want", "seen", "skill"] (spExpl K) := by
  obtain ⟨fd, F⟩ := Z.f_is_explained
  refine .of ⟨fd, F, ok0 F sc_is_explained (fun vs H Q E h => ?_) (fun cdv A outer s H vs Q E hr h => ?_)⟩ Z.g_is_explained (fun _ _ _ _ _ _ us hl => match us, hl with | [_, _, _], _ => rfl)
  · obtain ⟨wa, sa, b, z, xs, as, rfl, _⟩ := h
    rfl
  · obtain ⟨wa, sa, b, z, xs, as, rfl, hw, lb, hs, ps, la, k⟩ := h
    refine ⟨_, (pss_cons (ps_setLc (i := 3) (own := [("build", 4), ("asked", 5), ("let", 6)]) (by rfl) sc_is_explained.nd rfl rfl (sw_true rfl rfl rfl (by decide +kernel)) (pi_seq (pv 1)) (blkOk_by (own := [("build", 4), ("asked", 5), ("let", 6)]) (N := ["want", "seen", "skill", "answers", "build", "asked", "let", "name"]) (sc := defScope s_is_explained) (by decide +kernel)) (fun _ _ _ _ _ => (pg_tupK (K := K) (n := 3) rfl rfl (pgs_cons (pg_name (i := 4) sc_is_explained.nd rfl (Or.inl rfl)) (pgs_cons (pg_name (i := 5) sc_is_explained.nd rfl (Or.inl rfl)) (pgs_cons (pg_name (i := 6) sc_is_explained.nd rfl (Or.inl rfl)) pgs_nil))))) (fun _ _ _ _ _ => (pts_one (pt_cmpR op_eq (pv 5) (pv 2) (nomark _)))) (fun _ _ _ _ _ => (pe_tup (pa_cons (pv 4) (pa_cons (pv 6) pa_nil)))))
      (pss_one (ps_ret (pe_callB (cr_all rfl) (by rfl) Z.b_all boot_all (pa_cons (pe_lc (own := [("build", 4), ("let", 6)]) (by rfl) sc_is_explained.nd (pi_seq (pv 3)) (blkOk_by (own := [("build", 4), ("let", 6)]) (N := ["want", "seen", "skill", "answers", "build", "asked", "let", "name"]) (sc := defScope s_is_explained) (by decide +kernel)) (fun _ _ _ _ _ => (pg_tupK (K := K) (n := 2) rfl rfl (pgs_cons (pg_name (i := 4) sc_is_explained.nd rfl (Or.inr rfl)) (pgs_cons (pg_name (i := 6) sc_is_explained.nd rfl (Or.inl rfl)) pgs_nil)))) (fun _ _ _ _ _ => pts_nil) (fun _ _ _ _ _ => (pe_cmpR op_eq (pv 6) (pe_callB (show CallR _ _ (rAll K) from (cr_all rfl)) (by rfl) Z.b_all boot_all (pa_cons (pe_lc (own := [("name", 7)]) (by rfl) sc_is_explained.nd (pi_seqK (K := K) rfl (pv 0)) (by refine blkOk_by (own := [("name", 7)]) (N := ["want", "seen", "skill", "answers", "build", "asked", "let", "name"]) ?_; rfl) (fun _ _ _ _ _ => (pg_name (i := 7) sc_is_explained.nd rfl (Or.inl rfl))) (fun _ _ _ _ _ => pts_nil) (fun _ _ _ _ _ => (pe_cmpR (show OpR _ (compareOp .In) (rIn K false) from op_in_seq) (pv 7) (pv 4) rfl))) pa_nil)) (nomark _)))) pa_nil))))), ?_⟩
    have lx : xs.length = as.length := Paired.length ps
    refine ⟨_, rfl, sa, rfl, lc_new hs PaT (fun i => ((as.take i).filter fun a => decide (a.skill = z)).map fun a => (a.build, a.lets)) rfl (fun D nD i y Hy hi' p => ?_) fun T H1 ys nT s1 hT pT => ?_⟩
    · obtain ⟨a, ha, q, r, rfl, hq, hr'⟩ := paired_at ps hi'
      have hq2 := p.same _ _ hq
      have hr2 := p.same _ _ hr'
      refine ⟨q, _, rfl, SqT.of hq2, rfl, _, _, rfl, _, _, rfl, _, _, rfl, rfl, rfl, _, rfl, _, rfl, rfl, _, rfl, ?_⟩
      by_cases e : a.skill = z
      · refine ifT (decide_eq_true (by rw [e])) ⟨_, rfl, _, rfl, (by show 2 ≤ sizeLine; decide), fun t nt => ?_⟩
        refine (p.ext pat_mono (Same.new nt)).put pat_mono nD ⟨t, r, rfl, upd_same, Same.new nt _ _ hr2⟩ (filt_one (fun a : An => (a.build, a.lets)) _ ha (decide_eq_true e)) (line_of (m := 60) ?_ (by decide))
        rw [List.length_map]
        exact Nat.le_trans (List.length_filter_le _ _) (Nat.le_trans (List.length_take_le' _ _) la)
      · exact ifF (decide_eq_false (by intro q; injection q with q; exact e q)) (p.skip (filt_no (fun a : An => (a.build, a.lets)) _ ha (decide_eq_false e)))
    · rw [lx, List.take_length] at pT
      obtain ⟨prs, eprs⟩ : ∃ prs, prs = (as.filter fun a => decide (a.skill = z)).map fun a => (a.build, a.lets) := ⟨_, rfl⟩
      rw [← eprs] at pT
      have lp : prs.length ≤ 60 := by
        rw [eprs, List.length_map]
        exact Nat.le_trans (List.length_filter_le _ _) la
      have ly : ys.length = prs.length := Paired.length pT
      have hw1 := hw.same s1
      refine ⟨_, rfl, T, rfl, lc_seq (.inl (SqL.of hT)) (fun i => (prs.take i).map fun p => V.bl (decide (p.2 = b.all fun y => decide (y ∈ p.1)))) rfl (fun D nD i y Hy hi' p => ?_) fun D H3 nD s3 at3 => ?_⟩
      · obtain ⟨pr, hpr, q, r, rfl, hq, hr'⟩ := paired_at pT hi'
        have hq2 := p.same _ _ hq
        have hr2 := p.same _ _ hr'
        refine ⟨q, _, rfl, SqT.of hq2, rfl, _, _, rfl, _, _, rfl, rfl, rfl, _, rfl, _, rfl, wa, rfl, lc_seq (hw1.same p.same) (fun i => (b.take i).map fun y => V.bl (decide (y ∈ pr.1))) rfl (fun D2 nD2 j y2 Hy2 hj p2 => ?_) fun D2 H5 nD2 s5 at5 => ?_⟩
        · obtain ⟨y3, rfl, hy3⟩ := strs_get hj
          refine ⟨rfl, _, rfl, _, rfl, r, _, rfl, .inr (SqT.of (p2.same _ _ hr2)), rfl, flat_strsV _, ?_⟩
          rw [inV_strs]
          exact p2.put nD2 (map_one _ hy3) (take_line _ lb (by decide))
        · rw [List.length_map, List.take_length] at at5
          refine ⟨D2, b.map fun y => decide (y ∈ pr.1), rfl, SqL.of (by rw [at5, List.map_map]; rfl), rfl, ?_⟩
          have e1 : (b.map fun y => decide (y ∈ pr.1)).all id = b.all fun y => decide (y ∈ pr.1) := by simp [List.all_map]
          rw [e1]
          have e2 : decide (V.bl pr.2 = V.bl (b.all fun y => decide (y ∈ pr.1))) = decide (pr.2 = b.all fun y => decide (y ∈ pr.1)) := by
            rw [decide_eq_decide]
            exact ⟨fun h => by injection h, fun h => by rw [h]⟩
          rw [e2]
          exact (p.ext s5).put nD (map_one _ hpr) (take_line _ lp (by decide))
      · rw [ly, List.take_length] at at3
        refine ⟨D, prs.map fun p => decide (p.2 = b.all fun y => decide (y ∈ p.1)), rfl, SqL.of (by rw [at3, List.map_map]; rfl), ?_⟩
        have e1 : explB b as z = (prs.map fun p => decide (p.2 = b.all fun y => decide (y ∈ p.1))).all id := by
          rw [eprs]
          unfold explB
          simp [List.all_map]
        rw [← e1]
        exact k _ (s1.trans s3)
theorem cal_most_wanted (Z : All K mg) : Cal P w K mg base CX0 1 "most_wanted" ["names", "seen", "skill"] (spMost K) := by
  obtain ⟨fd, F⟩ := Z.f_most_wanted
  refine .of ⟨fd, F, ok0 F sc_most_wanted (fun vs H Q E h => ?_) (fun cdv A outer s H vs Q E hr h => ?_)⟩ Z.g_most_wanted (fun _ _ _ _ _ _ us hl => match us, hl with | [_, _, _], _ => rfl)
  · obtain ⟨n, sa, ns, z, xs, as, rfl, _⟩ := h
    rfl
  · obtain ⟨n, sa, ns, z, xs, as, rfl, hn, ln, hs, ps, la, k⟩ := h
    refine ⟨_, (pss_cons (ps_set (i := 3) sc_most_wanted.nd rfl (Or.inr rfl) (pe_lc (own := [("build", 4), ("asked", 5), ("let", 6)]) (by rfl) sc_most_wanted.nd (pi_seq (pv 1)) (blkOk_by (own := [("build", 4), ("asked", 5), ("let", 6)]) (N := ["names", "seen", "skill", "builds", "build", "asked", "let", "name"]) (sc := defScope s_most_wanted) (by decide +kernel)) (fun _ _ _ _ _ => (pg_tupK (K := K) (n := 3) rfl rfl (pgs_cons (pg_name (i := 4) sc_most_wanted.nd rfl (Or.inl rfl)) (pgs_cons (pg_name (i := 5) sc_most_wanted.nd rfl (Or.inl rfl)) (pgs_cons (pg_name (i := 6) sc_most_wanted.nd rfl (Or.inl rfl)) pgs_nil))))) (fun _ _ _ _ _ => (pts_one (PW.pt (pw_and (pt_cmpR op_eq (pv 5) (pv 2) (nomark _)) (pw_and1 (pt_val (pv 6))))))) (fun _ _ _ _ _ => (pv 4))))
      (pss_one (ps_ret (pe_callTy call_tuple_of (by rfl) Z.b_tuple PyProof.Rows.boot_tuple (pa_cons (pe_lc (own := [("name", 7)]) (by rfl) sc_most_wanted.nd (pi_seq (pv 0)) (blkOk_by (own := [("name", 7)]) (N := ["names", "seen", "skill", "builds", "build", "asked", "let", "name"]) (sc := defScope s_most_wanted) (by decide +kernel)) (fun _ _ _ _ _ => (pg_name (i := 7) sc_most_wanted.nd rfl (Or.inr rfl))) (fun _ _ _ _ _ => (pts_one (PW.pt (pw_and (pt_cmpR op_ne (pv 7) (pv 2) (nomark _)) (pw_and1 (pt_val (pe_callB (show CallR _ _ (rAll K) from (cr_all rfl)) (by rfl) Z.b_all boot_all (pa_cons (pe_lc (own := [("build", 4)]) (by rfl) sc_most_wanted.nd (pi_seqK (K := K) rfl (pv 3)) (by refine blkOk_by (own := [("build", 4)]) (N := ["names", "seen", "skill", "builds", "build", "asked", "let", "name"]) ?_; rfl) (fun _ _ _ _ _ => (pg_name (i := 4) sc_most_wanted.nd rfl (Or.inl rfl))) (fun _ _ _ _ _ => pts_nil) (fun _ _ _ _ _ => (pe_cmpR (show OpR _ (compareOp .In) (rIn K false) from op_in_seq) (pv 7) (pv 4) rfl))) pa_nil)))))))) (fun _ _ _ _ _ => (pv 7))) pa_nil))))), ?_⟩
    have lx : xs.length = as.length := Paired.length ps
    refine ⟨_, rfl, sa, rfl, lc_new hs BT (fun i => ((as.take i).filter fun a => decide (a.skill = z) && a.lets).map fun a => a.build) rfl (fun D nD i y Hy hi' p => ?_) fun T H1 ys nT s1 hT pT => ?_⟩
    · obtain ⟨a, ha, q, r, rfl, hq, hr'⟩ := paired_at ps hi'
      have hq2 := p.same _ _ hq
      have hr2 := p.same _ _ hr'
      refine ⟨q, _, rfl, SqT.of hq2, rfl, _, _, rfl, _, _, rfl, _, _, rfl, rfl, rfl, _, rfl, _, rfl, rfl, _, rfl, ?_⟩
      have pick : a.skill = z → a.lets = true → ∃ acc, Hy D = some (.lst acc) ∧ acc.length < sizeLine ∧ LcN H D BT (fun i => ((as.take i).filter fun a => decide (a.skill = z) && a.lets).map fun a => a.build) (i + 1) (upd Hy D (.lst (acc ++ [.ref r]))) := fun e l => by
        refine p.put bt_mono nD ⟨r, rfl, hr2⟩ (filt_one (fun a : An => a.build) _ ha (by rw [decide_eq_true e, l]; rfl)) (line_of (m := 60) ?_ (by decide))
        rw [List.length_map]
        exact Nat.le_trans (List.length_filter_le _ _) (Nat.le_trans (List.length_take_le' _ _) la)
      by_cases e : a.skill = z
      · refine ifT (decide_eq_true (by rw [e])) ⟨_, rfl, _, rfl, ?_⟩
        cases l : a.lets with
        | true => exact ifT rfl ⟨_, rfl, pick e l⟩
        | false => exact ifF rfl (p.skip (filt_no (fun a : An => a.build) _ ha (by rw [l, Bool.and_false])))
      · exact ifF (decide_eq_false (by intro q; injection q with q; exact e q)) (p.skip (filt_no (fun a : An => a.build) _ ha (by rw [decide_eq_false e]; rfl)))
    · rw [lx, List.take_length] at pT
      obtain ⟨bs, ebs⟩ : ∃ bs, bs = (as.filter fun a => decide (a.skill = z) && a.lets).map fun a => a.build := ⟨_, rfl⟩
      rw [← ebs] at pT
      have lp : bs.length ≤ 60 := by
        rw [ebs, List.length_map]
        exact Nat.le_trans (List.length_filter_le _ _) la
      have ly : ys.length = bs.length := Paired.length pT
      have el : ∀ y, letAll as z y = bs.all fun b => decide (y ∈ b) := fun y => by
        rw [ebs]
        unfold letAll
        simp [List.all_map]
      have hn1 := hn.same s1
      refine ⟨_, rfl, n, rfl, lc_seq hn1 (fun i => ((ns.take i).filter fun y => !decide (y = z) && letAll as z y).map V.str) rfl (fun D nD i y Hy hi' p => ?_) fun D H3 nD s3 at3 => ?_⟩
      · obtain ⟨y, rfl, hy⟩ := strs_get hi'
        refine ⟨rfl, _, rfl, _, rfl, rfl, _, rfl, ?_⟩
        by_cases e : y = z
        · exact ifF (by rw [decide_eq_true (by rw [e])]; rfl) (p.skip (filt_no V.str _ hy (by rw [decide_eq_true e]; rfl)))
        · refine ifT (by rw [decide_eq_false (by intro q; injection q with q; exact e q)]; rfl) ⟨_, rfl, T, rfl, lc_seq (.inl (SqL.of (p.same _ _ hT))) (fun i => (bs.take i).map fun b => V.bl (decide (y ∈ b))) rfl (fun D2 nD2 j y2 Hy2 hj p2 => ?_) fun D2 H5 nD2 s5 at5 => ?_⟩
          · obtain ⟨b, hb, r, rfl, hr'⟩ := paired_at pT hj
            refine ⟨rfl, _, rfl, _, rfl, r, _, rfl, .inr (SqT.of (p2.same _ _ (p.same _ _ hr'))), rfl, flat_strsV _, ?_⟩
            rw [inV_strs]
            exact p2.put nD2 (map_one _ hb) (take_line _ lp (by decide))
          · rw [ly, List.take_length] at at5
            refine ⟨D2, bs.map fun b => decide (y ∈ b), rfl, SqL.of (by rw [at5, List.map_map]; rfl), _, rfl, ?_⟩
            have e1 : (bs.map fun b => decide (y ∈ b)).all id = letAll as z y := by
              rw [el]
              simp [List.all_map]
            rw [e1]
            refine ifB (fun c => ?_) (fun c => ?_)
            · refine ⟨_, rfl, (p.ext s5).put nD (filt_one V.str _ hy (by rw [decide_eq_false e, c]; rfl)) (line_of (m := 60) ?_ (by decide))⟩
              rw [List.length_map]
              exact Nat.le_trans (List.length_filter_le _ _) (Nat.le_trans (List.length_take_le' _ _) ln)
            · exact (p.ext s5).skip (filt_no V.str _ hy (by rw [c, Bool.and_false]))
      · rw [List.length_map, List.take_length] at at3
        exact ⟨D, _, rfl, .inl ⟨SqL.of at3, fun t nt => k t _ ((s1.trans s3).trans (Same.new nt)) upd_same⟩⟩
end
end Rt
end
section
set_option Elab.async false
set_option linter.all false
set_option maxRecDepth 100000
set_option maxHeartbeats 4000000
/-! a dict that has None among its keys: made of pairs, its type, its length -/
namespace Rt
open PySem PySem.Spec PyProof.Rows L2
def okIs : Option Str → Value → Bool
  | none, .none => true
  | none, _ => false
  | some x, v => keyIs (.inr x) v
theorem okIs_none {v : Value} (h : okIs none v = true) : v = .none := by
  cases v <;> first | rfl | cases h
theorem okIs_some {x : Str} {v : Value} (h : okIs (some x) v = true) : ∃ t, v = .str x t := by
  rcases keyIs_shape (k := .inr x) h with ⟨i, t, e, _⟩ | ⟨y, t, e, rfl⟩
  · cases e
  · cases e
    exact ⟨t, rfl⟩
def okHash (w : World) : Option Str → Int
  | none => NestedKey.hash w .none
  | some x => keyH w (.inr x)
def optKind (prog : Program) (w : World) : PySem.KeyKind prog w (Option Str) where
  is := okIs
  hash := okHash w
  inj := fun v a b ha hb => by
    cases a with
    | none =>
      cases okIs_none ha
      cases b with
      | none => rfl
      | some y => obtain ⟨t, e⟩ := okIs_some hb; cases e
    | some x =>
      obtain ⟨t, e⟩ := okIs_some ha
      subst e
      cases b with
      | none => cases okIs_none hb
      | some y =>
        obtain ⟨u, e⟩ := okIs_some hb
        cases e
        rfl
  byValue := fun k v h => by
    cases k with
    | none => cases okIs_none h; rfl
    | some x => obtain ⟨t, e⟩ := okIs_some h; subst e; rfl
  pyHash := fun {A E s k v Q} hv h => by
    cases k with
    | none =>
      cases okIs_none hv
      refine W.pyHash_slot (T := "NoneType") rfl F.slot_NoneType_hash F.entry_NoneType_hash (F.args_NoneType_hash_1 _)
        (by rfl) (.inl rfl) ?_
      refine wpAny_bind (wpAny_pure ?_)
      refine wpAny_bind (wpAny_mkInt ?_)
      exact wpAny_pure ⟨_, _, rfl, h⟩
    | some x =>
      exact (mixKind prog w).pyHash (k := .inr x) hv h
  eqBool := fun {A E s a b u v Q} hu hv h => by
    cases a with
    | none =>
      cases okIs_none hu
      cases b with
      | none =>
        cases okIs_none hv
        rw [decide_eq_true rfl] at h
        exact SeqAt.EqAt.same _ _ _ _ _ h
      | some y =>
        obtain ⟨t, e⟩ := okIs_some hv
        subst e
        rw [decide_eq_false (by intro z; cases z)] at h
        exact SeqAt.EqAt.none_str _ _ _ _ _ _ h
    | some x =>
      obtain ⟨t, e⟩ := okIs_some hu
      subst e
      cases b with
      | none =>
        cases okIs_none hv
        rw [decide_eq_false (by intro z; cases z)] at h
        exact SeqAt.EqAt.str_none _ _ _ _ _ _ h
      | some y =>
        obtain ⟨t2, e⟩ := okIs_some hv
        subst e
        refine wpAny_eqBool_str ?_
        have q : decide (some x = some y) = decide (x = y) := by simp
        rw [q] at h
        exact h
  «strs» := fun k x t v h => by
    cases k with
    | none => cases okIs_none h
    | some y =>
      obtain ⟨u, e⟩ := okIs_some h
      cases e
      exact (mixKind prog w).«strs» (.inr x) x t v h
theorem merged_nodup {κ : Type} [DecidableEq κ] : ∀ (more acc : List (κ × Value)), ((acc ++ more).map (·.1)).Nodup → merged acc more = acc ++ more
  | [], acc, _ => by rw [List.append_nil]; rfl
  | p :: more, acc, nd => by
    have no : (acc.any fun kv => kv.1 = p.1) = false := by
      rw [List.any_eq_false]
      intro kv hkv e
      rw [List.map_append, List.nodup_append] at nd
      exact nd.2.2 kv.1 (List.mem_map_of_mem hkv) p.1 (by simp) (of_decide_eq_true e)
    have st : stored acc p.1 p.2 = acc ++ [p] := by
      unfold stored
      rw [no]
      rfl
    show merged (stored acc p.1 p.2) more = _
    rw [st, merged_nodup more (acc ++ [p]) (by rw [List.append_assoc]; exact nd), List.append_assoc]
    rfl
/-- a dict of n entries, keys texts or None -/
def SdN (P : Program) (w : World) (a : Addr) (n : Nat) : HO := .ext fun h => (a == sysModules) = false ∧ ∃ kvs : List (Option Str × Value), h.DictOf (optKind P w) a kvs ∧ kvs.length = n
theorem sdn_ok {P : Program} {w : World} {H : Hp} {h : Heap} {a : Addr} {n : Nat} (q : (a == sysModules) = false ∧ ∃ kvs : List (Option Str × Value), h.DictOf (optKind P w) a kvs ∧ kvs.length = n) : ObjOk P w H h a (SdN P w a n) := by
  have ⟨ns, kvs, ⟨o, es, ep, ho, r⟩, l⟩ := q
  exact ⟨q, ⟨o, ho⟩, fun h1 h2 z k => let ⟨ns', kv, ⟨o', es', ep', ho', r'⟩, l'⟩ := z; ⟨ns', kv, ⟨o', es', ep', k o' ho', r'⟩, l'⟩⟩
def oK : Option Str → V
  | none => .non
  | some z => .str z
theorem ok_is {k : Option Str} {u : Value} (r : L2.RelV (oK k) u) : okIs k u = true := by
  cases k with
  | none => cases (show u = Value.none from r); rfl
  | some z =>
    obtain ⟨t, e⟩ := (show ∃ t, u = Value.str z t from r)
    subst e
    exact keyIs_str z t
theorem opairs_of {X : Cx} {pins : List (Addr × Obj)} {σ : L2.St} {H : Hp} {s : Shared} (I : L2.Inv X pins σ H s) : ∀ {ps : List Addr} {kvs : List (Option Str × V)}, Paired (fun p kv => SqT X.K H p [oK kv.1, kv.2]) ps kvs →
    ∃ prs : List (Option Str × Value), prs.map (·.1) = kvs.map (·.1) ∧ prs.length = ps.length ∧ ∃ us : List Value, us.length = ps.length ∧ ∀ (j : Nat) (q : Option Str × Value), prs[j]? = some q → ∃ b u, ps[j]? = some b ∧ us[j]? = some u ∧ IsTup s.heap b #[u, q.2] ∧ okIs q.1 u = true
  | _, _, .nil => ⟨[], rfl, rfl, [], rfl, fun j q e => by simp at e⟩
  | _, _, .cons (a := p) (b := kv) h t => by
    obtain ⟨prs, hm, hl, us, hu, hp⟩ := opairs_of I t
    obtain ⟨its, rv, ht, _⟩ := I.tuple h
    obtain ⟨u, y, ei, ru, ry⟩ := vals2 rv
    subst ei
    refine ⟨(kv.1, y) :: prs, by rw [List.map_cons, List.map_cons, hm], by rw [List.length_cons, List.length_cons, hl], u :: us, by rw [List.length_cons, List.length_cons, hu], fun j q e => ?_⟩
    cases j with
    | zero =>
      have e' : (kv.1, y) = q := Option.some.inj e
      subst e'
      exact ⟨p, u, rfl, rfl, ht, ok_is ru⟩
    | succ j =>
      obtain ⟨b, u2, q1, q2, q3⟩ := hp j q (by simpa using e)
      exact ⟨b, u2, by simpa using q1, by simpa using q2, q3⟩
def rDictN (P : Program) (w : World) (K : PySem.W.Frag) : List V → Hp → VK → Prop := fun xs H Q => ∃ (a : Addr) (ps : List Addr) (kvs : List (Option Str × V)), xs = [.ref a] ∧ SqL K H a (ps.map V.ref) ∧ Paired (fun p kv => SqT K H p [oK kv.1, kv.2]) ps kvs ∧ (kvs.map (·.1)).Nodup ∧
  ∀ p, H p = none → Q (.ref p) (upd H p (SdN P w p kvs.length))
def rLenN (P : Program) (w : World) : List V → Hp → VK → Prop := fun xs H Q => ∃ a n, xs = [V.ref a] ∧ H a = some (SdN P w a n) ∧ n ≤ 1000 ∧ Q (.int (n : Nat)) H
def rIsN (P : Program) (w : World) : List V → Hp → VK → Prop := fun xs H Q => ∃ a n, xs = [.ref a, .ty "dict"] ∧ H a = some (SdN P w a n) ∧ Q (.bl true) H
section
variable {X : Cx}
theorem call_isN : CallR X (.builtin "isinstance") (rIsN X.prog X.w) := by
  intro pins s σ H xs us Q I r ⟨a, n, ex, ha, q⟩
  subst ex
  obtain ⟨u1, u2, rfl, r1, r2⟩ := vals2 r
  cases (show u1 = Value.ref a from r1)
  cases (show u2 = Value.type "dict" from r2)
  obtain ⟨_, kvs, ⟨o, es, ep, ho, hc, _⟩, _⟩ := (show (a == sysModules) = false ∧ ∃ kvs : List (Option Str × Value), s.heap.DictOf (optKind X.prog X.w) a kvs ∧ kvs.length = n from (I.hok a _ ha).1)
  exact PySem.W.kia_one PySem.W.kitx_dict I.kIn ⟨o, ho, hc.1⟩ (answ_of (T := "dict") (c := "dict") (by decide) (by decide)) (by intro z; cases z) fun tk => ⟨.bl true, H, I.tok tk, rfl, q⟩
theorem call_lenSd : CallR X (.builtin "len") (rLenN X.prog X.w) := by
  intro pins s σ H xs us Q I r ⟨a, n, ex, ha, hn, q⟩
  subst ex
  obtain ⟨u, rfl, ru⟩ := vals1 r
  cases (show u = Value.ref a from ru)
  obtain ⟨ns, kvs, d, l⟩ := (show (a == sysModules) = false ∧ ∃ kvs : List (Option Str × Value), s.heap.DictOf (optKind X.prog X.w) a kvs ∧ kvs.length = n from (I.hok a _ ha).1)
  exact call_len_dict ns d (by omega) ⟨.int (n : Nat), H, I.tok _, ⟨_, by rw [l]⟩, q⟩
theorem call_dictN (hc : X.calm = true) : CallR X (.type "dict") (rDictN X.prog X.w X.K) := by
  intro pins s σ H xs us Q I r ⟨a, ps, kvs, ex, hl, pr, nd, q⟩
  subst ex
  obtain ⟨u, rfl, ru⟩ := vals1 r
  cases (show u = Value.ref a from ru)
  obtain ⟨its, rv, pl, hz⟩ := I.list hl
  have ei := refs_at rv
  rw [List.length_map] at hz
  obtain ⟨prs, hm, hlen, ws, hw, hp⟩ := opairs_of I pr
  obtain ⟨o, n, ho, hcl, hd, hdat⟩ := pl
  have size : its.length = prs.length := by rw [ei, List.length_map, hlen]
  -- the pairs as values
  have two : (ws.zip (prs.map (·.2))).length = prs.length := by
    rw [List.length_zip, List.length_map, hw, hlen, Nat.min_self]
  have items : PairItems s.heap its.toArray (fun j => ps.getD j 0) (ws.zip (prs.map (·.2))) := by
    refine ⟨by rw [List.size_toArray, size, two], fun j k v e => ?_⟩
    rw [List.getElem?_zip_eq_some] at e
    obtain ⟨e1, e2⟩ := e
    rw [List.getElem?_map] at e2
    cases e3 : prs[j]? with
    | none => rw [e3] at e2; cases e2
    | some pq =>
      rw [e3] at e2
      have e2 := Option.some.inj e2
      obtain ⟨b, u, q1, q2, q3, q4⟩ := hp j pq e3
      rw [e1] at q2
      cases q2
      have gb : ps.getD j 0 = b := by simp [List.getD, q1]
      refine ⟨?_, .inl ?_⟩
      · rw [ei]
        simp [q1, gb]
      · show s.heap.IsTuple (ps.getD j 0) #[k, v]
        have e4 : pq.2 = v := e2
        rw [gb, ← e4]
        obtain ⟨ot, h1, h2, h3⟩ := q3
        exact ⟨ot, h1, h2, h3⟩
  refine PySem.call_dict_pairs (knd := optKind X.prog X.w) (kvs := prs) (PySem.PairArg.list a its.toArray (fun j => ps.getD j 0) (ws.zip (prs.map (·.2)))) (I.ok.hd hc) ⟨⟨o, n, ho, hcl, hd, hdat⟩, items⟩ ⟨two.symm, fun i key v e => ?_⟩ (by rw [two, hlen]; exact hz) fun h' tk hd' k => ?_
  · have e : (ws.zip (prs.map (·.2)))[i]? = some (key, v) := e
    rw [List.getElem?_zip_eq_some] at e
    obtain ⟨e1, e2⟩ := e
    rw [List.getElem?_map] at e2
    cases e3 : prs[i]? with
    | none => rw [e3] at e2; cases e2
    | some pq =>
      rw [e3] at e2
      have e2 := Option.some.inj e2
      obtain ⟨b, u, q1, q2, q3, q4⟩ := hp i pq e3
      rw [e1] at q2
      cases q2
      have e4 : pq.2 = v := e2
      exact ⟨pq.1, by rw [← e4], q4⟩
  · have mg : merged [] prs = prs := merged_nodup prs [] (by rw [List.nil_append, hm]; exact nd)
    rw [mg] at hd'
    have big : (s.heap.objs.size == sysModules) = false := beq_eq_false_iff_ne.mpr (Nat.ne_of_gt I.big)
    have ln : prs.length = kvs.length := by
      have e1 := congrArg List.length hm
      rw [List.length_map, List.length_map] at e1
      exact e1
    exact ⟨.ref s.heap.objs.size, _, I.laid (t' := tk) (fun b o e => k b o (by simp) e) (Nat.le_refl _) (sdn_ok ⟨big, prs, hd', ln⟩), rfl, q _ (I.hok.fresh (Nat.le_refl _))⟩
end
end Rt
end
section
set_option Elab.async false
set_option linter.all false
set_option maxRecDepth 100000
set_option maxHeartbeats 4000000
/-! told: wants of all skills -/
namespace Rt
open PySem PySem.Spec PyProof.Rows L2
/-- a dict from each of some names to a value, in their order -/
structure DW (K : PySem.W.Frag) (H : Hp) (d : Addr) (ns : List Str) (m : Str → Option (List V)) : Prop where
  ex : ∃ kvs : List (Key × V), H d = some (.dK kvs) ∧ kvs.map (·.1) = ns.map Sum.inr ∧ ∀ z ∈ ns, ∃ v, valV kvs (.inr z) = some v ∧ Ov K H v (m z)
theorem DW.same {K : PySem.W.Frag} {H H' : Hp} {d : Addr} {ns : List Str} {m : Str → Option (List V)} (h : DW K H d ns m) (s : Same H H') : DW K H' d ns m := by
  obtain ⟨kvs, e, hk, hv⟩ := h.ex
  exact ⟨kvs, s _ _ e, hk, fun z hz => let ⟨v, h1, h2⟩ := hv z hz; ⟨v, h1, h2.same s⟩⟩
def hasO (z : Str) : Option (List V) → Bool
  | none => false
  | some xs => decide (z ∈ strsOf xs)
def awa (ns : List Str) (m : Str → Option (List V)) : Bool := ns.all fun z => ordO ns (m z) && !hasO z (m z)
theorem Sq.lock {K : PySem.W.Frag} {H : Hp} {a d : Addr} {xs : List V} {kvs : List (Key × V)} {o : HO} (h : Sq K H a xs) (hd : H d = some (.dK kvs)) : Sq K (upd H d o) a xs := by
  have go : ∀ {u : HO}, H a = some u → u ≠ .dK kvs → upd H d o a = some u := fun {u} e n => by
    rw [upd_ne (ne_of e hd n)]
    exact e
  rcases h with ((h | ⟨f, h⟩) | h) | ((h | ⟨f, h⟩) | h)
  · exact .inl (.inl (.inl (go h (by intro z; cases z))))
  · exact .inl (.inl (.inr ⟨f, go h (by intro z; cases z)⟩))
  · exact .inl (.inr h)
  · exact .inr (.inl (.inl (go h (by intro z; cases z))))
  · exact .inr (.inl (.inr ⟨f, go h (by intro z; cases z)⟩))
  · exact .inr (.inr h)
theorem lock_same {H H' : Hp} {d : Addr} {u o : HO} (hd : H d = some u) (s : Same (upd H d o) H') : Same H (upd H' d u) := fun b v hb => by
  by_cases e : b = d
  · subst e
    rw [hd] at hb
    rw [upd_same]
    exact hb
  · rw [upd_ne e]
    exact s _ _ (by rw [upd_ne e]; exact hb)
/-- what may be handed in for wants, and whether it is such -/
inductive WtV (P : Program) (w : World) (K : PySem.W.Frag) (H : Hp) (ns : List Str) : V → Bool → (Str → Option (List V)) → Prop
  | no {x : V} {T : String} (m : Str → Option (List V)) (t : Ts K H x T) (ne : T ≠ "dict") : WtV P w K H ns x false m
  | len {d : Addr} {kvs : List (Key × V)} (m : Str → Option (List V)) (h : H d = some (.dK kvs)) (ne : kvs.length ≠ ns.length) : WtV P w K H ns (.ref d) false m
  | non {d : Addr} {n : Nat} (m : Str → Option (List V)) (h : H d = some (SdN P w d n)) (ne : n ≠ ns.length) (l : n ≤ 1000) : WtV P w K H ns (.ref d) false m
  | dw {d : Addr} {m : Str → Option (List V)} (h : DW K H d ns m) : WtV P w K H ns (.ref d) (awa ns m) m
theorem WtV.same {P : Program} {w : World} {K : PySem.W.Frag} {H H' : Hp} {ns : List Str} {x : V} {b : Bool} {m : Str → Option (List V)} (h : WtV P w K H ns x b m) (s : Same H H') : WtV P w K H' ns x b m := by
  cases h with
  | no _ t ne => exact .no _ (t.same s) ne
  | len _ h ne => exact .len _ (s _ _ h) ne
  | non _ h ne l => exact .non _ (s _ _ h) ne l
  | dw h => exact .dw (h.same s)
def spAwa (P : Program) (w : World) (K : PySem.W.Frag) : Sp := fun vs H Q _ => ∃ (n : Addr) (x : V) (ns : List Str) (b : Bool) (m : Str → Option (List V)), vs = [.ref n, x] ∧ Sq K H n (ns.map V.str) ∧ ns.length ≤ 60 ∧ Oks ns ∧ WtV P w K H ns x b m ∧ ∀ H', Same H H' → Q (.bl b) H'
section
variable {P : Program} {w : World} {K : PySem.W.Frag} {mg : Str → Option Value} {base : Heap}
theorem cal_are_wants_of_all (Z : All K mg) : Cal P w K mg base CX0 4 "are_wants_of_all" ["names", "value"] (spAwa P w K) := by
  obtain ⟨fd, F⟩ := Z.f_are_wants_of_all
  have C_is_one_of : Cal P w K mg base CX0 1 "is_one_of" ["names", "value"] (spOne K) := cal_is_one_of Z
  have C_is_ordered : Cal P w K mg base CX0 3 "is_ordered" ["names", "value"] (spOrd K) := cal_is_ordered Z
  refine .of ⟨fd, F, ok0 F sc_are_wants_of_all (fun vs H Q E h => ?_) (fun cdv A outer s H vs Q E hr h => ?_)⟩ Z.g_are_wants_of_all (fun _ _ _ _ _ _ us hl => match us, hl with | [_, _], _ => rfl)
  · obtain ⟨n, x, ns, b, m, rfl, _⟩ := h
    rfl
  · obtain ⟨n, x, ns, b, m, rfl, hn, ln, oks, wt, k⟩ := h
    refine ⟨_, (pss_cons (ps_if (PW.pt (pw_or (pt_not (pt_val (pe_callB ((call_is (cn := "dict") (by decide)).or call_isN) (by rfl) Z.b_isinstance boot_isinstance (pa_cons (pv 1) (pa_cons (pe_bltn (v := .ty "dict") (by rfl) Z.b_dict PyProof.Rows.boot_dict rfl) pa_nil))))) (pw_or1 (pt_cmpR op_ne (pe_callB (call_lenD.or call_lenSd) (by rfl) Z.b_len PySem.boot_len (pa_cons (pv 1) pa_nil)) (pe_callB call_len (by rfl) Z.b_len PySem.boot_len (pa_cons (pv 0) pa_nil)) (nomark _))))) (pss_one (ps_ret pe_bl)) pss_nil)
      (pss_cons (ps_if (pt_not (pt_val (pe_callB (cr_all rfl) (by rfl) Z.b_all boot_all (pa_cons (pe_lock (pe_lc (own := [("skill", 2)]) (by rfl) sc_are_wants_of_all.nd (pi_keys (pv 1)) (blkOk_by (own := [("skill", 2)]) (N := ["names", "value", "skill"]) (sc := defScope s_are_wants_of_all) (by decide +kernel)) (fun _ _ _ _ _ => (pg_name (i := 2) sc_are_wants_of_all.nd rfl (Or.inl rfl))) (fun _ _ _ _ _ => pts_nil) (fun _ _ _ _ _ => (pe_cal C_is_one_of (hr.mono (by decide)) (by rfl) pass0 (pa_cons (pv 0) (pa_cons (pv 2) pa_nil)))))) pa_nil)))) (pss_one (ps_ret pe_bl)) pss_nil)
      (pss_one (ps_ret (pe_callB (cr_all rfl) (by rfl) Z.b_all boot_all (pa_cons (pe_lc (own := [("skill", 2)]) (by rfl) sc_are_wants_of_all.nd (pi_seq (pv 0)) (blkOk_by (own := [("skill", 2)]) (N := ["names", "value", "skill"]) (sc := defScope s_are_wants_of_all) (by decide +kernel)) (fun _ _ _ _ _ => (pg_name (i := 2) sc_are_wants_of_all.nd rfl (Or.inl rfl))) (fun _ _ _ _ _ => pts_nil) (fun _ _ _ _ _ => (pe_and (pe_cal C_is_ordered (hr.mono (by decide)) (by rfl) pass0 (pa_cons (pv 0) (pa_cons (pe_dget (hu_of hr) (pv 1) (pv 2) (fun _ _ => rfl)) pa_nil))) (pe_one (pe_cmpR (show OpR _ (compareOp .NotIn) (rIn K true) from op_notIn_seq) (pv 2) (pe_dget (hu_of hr) (pv 1) (pv 2) (fun _ _ => rfl)) rfl))))) pa_nil)))))), ?_⟩
    cases wt with
    | no _ t ne => exact ⟨_, rfl, .inl ⟨x, _, rfl, t, _, rfl, ifT (by simp [answ, ne]) (k H (Same.refl H))⟩⟩
    | @non d nn _ h ne l =>
      refine ⟨_, rfl, .inr ⟨d, nn, rfl, h, _, rfl, ifF (by decide) ⟨_, rfl, .inr ⟨d, nn, rfl, h, l, _, rfl, _, (ns.map V.str).length, rfl, lenV_sq hn, rfl, _, rfl, ?_⟩⟩⟩⟩
      rw [List.length_map]
      exact ifT (by rw [decide_eq_false (by intro q; injection q with q; omega)]; rfl) (k H (Same.refl H))
    | @len d kvs _ h ne =>
      refine ⟨_, rfl, .inl ⟨.ref d, "dict", rfl, .dct h, _, rfl, ifF (by decide) ⟨_, rfl, .inl ⟨d, kvs, rfl, h, _, rfl, _, (ns.map V.str).length, rfl, lenV_sq hn, rfl, _, rfl, ?_⟩⟩⟩⟩
      rw [List.length_map]
      exact ifT (by rw [decide_eq_false (by intro q; injection q with q; omega)]; rfl) (k H (Same.refl H))
    | @dw d _ dw =>
    obtain ⟨kvs, hd, hk, hv⟩ := dw.ex
    have lk : kvs.length = ns.length := by
      have := congrArg List.length hk
      rw [List.length_map, List.length_map] at this
      exact this
    refine ⟨_, rfl, .inl ⟨.ref d, "dict", rfl, .dct hd, _, rfl, ifF (by decide) ⟨_, rfl, .inl ⟨d, kvs, rfl, hd, _, rfl, _, (ns.map V.str).length, rfl, lenV_sq hn, rfl, _, rfl, ?_⟩⟩⟩⟩
    rw [List.length_map, lk]
    refine ifF (by rw [decide_eq_true rfl]; rfl) ?_
    refine ⟨d, .dK kvs, hd, trivial, fun od => ⟨_, rfl, d, od, rfl, .inl ⟨kvs, upd_same, fun D nD => ?_⟩⟩⟩
    have hnL := hn.lock (o := .frz od (.dK kvs)) hd
    refine lc_it walk_keys (LcP (upd H d (.frz od (.dK kvs))) D fun i => (kvs.take i).map fun _ => V.bl true) (LcP.zero nD rfl) (fun i H2 _ p => p.same _ _ upd_same) ?_ ?_
    · rintro i x H2 H3 hi p ⟨rfl, ky, v, hkv, rfl⟩
      have hz : (ns.map (Sum.inr : Str → Key))[i]? = some ky := by
        rw [← hk, List.getElem?_map, hkv]
        rfl
      rw [List.getElem?_map] at hz
      cases q : ns[i]? with
      | none => rw [q] at hz; cases hz
      | some z =>
        rw [q] at hz
        cases hz
        refine ⟨rfl, _, rfl, _, rfl, n, ns, .str z, "str", rfl, hnL.same p.same, .str _, ?_⟩
        have e1 : isOne ns (.str z) = true := decide_eq_true (List.mem_of_getElem? q)
        rw [e1]
        exact p.put nD (map_one _ hkv) (take_line _ (m := 60) (by omega) (by decide))
    · intro H2 p
      have p2 := p.at_
      rw [List.take_length] at p2
      refine ⟨p.same _ _ upd_same, ?_⟩
      have s2 := lock_same hd p.same
      obtain ⟨H3, e3⟩ : ∃ H3, H3 = upd H2 d (.dK kvs) := ⟨_, rfl⟩
      have nDd : D ≠ d := fun e => by
        rw [e, upd_same] at nD
        cases nD
      have p3 : H3 D = some (.lst (kvs.map fun _ => V.bl true)) := by
        rw [e3, upd_ne nDd]
        exact p2
      rw [← e3] at s2 ⊢
      refine ⟨D, kvs.map fun _ => true, rfl, SqL.of (by rw [p3, List.map_map]; rfl), _, rfl, ?_⟩
      rw [all_trues (fun _ _ => rfl)]
      refine ifF rfl ?_
      have hn3 := hn.same s2
      have hd3 := s2 _ _ hd
      refine ⟨_, rfl, n, rfl, lc_seq hn3 (fun i => (ns.take i).map fun z => V.bl (ordO ns (m z) && !hasO z (m z))) rfl (fun T nT i y Hy hi' p => ?_) fun T H5 nT s5 at5 => ?_⟩
      · obtain ⟨z, rfl, hz⟩ := strs_get hi'
        obtain ⟨v, hv1, hv2⟩ := hv z (List.mem_of_getElem? hz)
        refine ⟨rfl, _, rfl, _, rfl, _, rfl, d, v, rfl, ?_, n, ns, v, m z, rfl, hn3.same p.same, ln, oks, hv2.same (s2.trans p.same), fun H6 s6 => ?_⟩
        · rw [← hv1]
          exact DGet.k (k := .inr z) (p.same _ _ hd3)
        · refine ⟨_, rfl, ?_⟩
          have put : ∀ b, b = (ordO ns (m z) && !hasO z (m z)) → ∃ acc, H6 T = some (.lst acc) ∧ acc.length < sizeLine ∧ LcP H3 T (fun i => (ns.take i).map fun z => V.bl (ordO ns (m z) && !hasO z (m z))) (i + 1) (upd H6 T (.lst (acc ++ [.bl b]))) := fun b e => by
            rw [e]
            exact (p.ext s6).put nT (map_one _ hz) (take_line _ ln (by decide))
          refine ifB (fun e => ?_) (fun e => ?_)
          · cases mz : m z with
            | none =>
              rw [mz] at e
              cases e
            | some xs =>
              rw [mz] at e hv2
              obtain ⟨b, rfl, hb, _, _⟩ := hv2
              have un : unlike ns xs = true := (Bool.and_eq_true_iff.mp e).1
              have back := (unlike_back un).1
              have hb6 := sqT_same ((s2.trans p.same).trans s6) hb
              rw [back] at hb6
              refine ⟨_, rfl, _, rfl, _, rfl, d, .ref b, rfl, ?_, b, _, rfl, .inr hb6, rfl, flat_strsV _, ?_⟩
              · rw [← hv1]
                exact DGet.k (k := .inr z) (s6 _ _ (p.same _ _ hd3))
              · rw [inV_strs]
                refine put _ ?_
                rw [mz, e, Bool.true_and]
                rfl
          · refine put _ ?_
            rw [e]
            rfl
      · rw [List.length_map, List.take_length] at at5
        refine ⟨T, ns.map fun z => (ordO ns (m z) && !hasO z (m z)), rfl, SqL.of (by rw [at5, List.map_map]; rfl), ?_⟩
        have e1 : (ns.map fun z => (ordO ns (m z) && !hasO z (m z))).all id = awa ns m := by
          unfold awa
          simp [List.all_map]
        rw [e1]
        exact k _ (s2.trans s5)
end
end Rt
end
section
set_option Elab.async false
set_option linter.all false
set_option maxRecDepth 100000
set_option maxHeartbeats 4000000
/-! told: explains, greatest_wants, may, must, next_ask -/
namespace Rt
open PySem PySem.Spec PyProof.Rows L2
def whyB (b : Bool) (ns : List Str) (m : Str → Option (List V)) (as : List An) : Bool := b && ns.all fun z => explB (strsOf ((m z).getD [])) as z
def allB (ns : List Str) (as : List An) : Bool := ns.all fun z => explB (mostW ns as z) as z
/-- a dict from each of some names to a tuple of texts -/
def DM (H : Hp) (d : Addr) (ns : List Str) (f : Str → List Str) : Prop := ∃ kvs : List (Key × V), H d = some (.dK kvs) ∧ kvs.map (·.1) = ns.map Sum.inr ∧ ∀ z ∈ ns, ∃ r, valV kvs (.inr z) = some (.ref r) ∧ H r = some (.tup ((f z).map V.str))
theorem DM.same {H H' : Hp} {d : Addr} {ns : List Str} {f : Str → List Str} (h : DM H d ns f) (s : Same H H') : DM H' d ns f := by
  obtain ⟨kvs, e, hk, hv⟩ := h
  exact ⟨kvs, s _ _ e, hk, fun z hz => let ⟨r, h1, h2⟩ := hv z hz; ⟨r, h1, s _ _ h2⟩⟩
theorem DM.dw {K : PySem.W.Frag} {H : Hp} {d : Addr} {ns : List Str} {f : Str → List Str} (h : DM H d ns f) (l : ∀ z ∈ ns, (f z).length ≤ 60) : DW K H d ns fun z => some ((f z).map V.str) := by
  obtain ⟨kvs, e, hk, hv⟩ := h
  exact ⟨kvs, e, hk, fun z hz => let ⟨r, h1, h2⟩ := hv z hz; ⟨.ref r, h1, ov_tup h2 (l z hz)⟩⟩
theorem awa_of {ns : List Str} {f : Str → List Str} (nd : ns.Nodup) (h : ∀ z ∈ ns, (f z).Sublist ns ∧ z ∉ f z) : awa ns (fun z => some ((f z).map V.str)) = true := by
  unfold awa
  rw [List.all_eq_true]
  intro z hz
  obtain ⟨h1, h2⟩ := h z hz
  rw [ord_sub nd h1, Bool.true_and]
  show (!decide (z ∈ strsOf ((f z).map V.str))) = true
  rw [strsOf_map, decide_eq_false h2]
  rfl
theorem why_of {ns : List Str} {f : Str → List Str} {as : List An} (nd : ns.Nodup) (h : ∀ z ∈ ns, (f z).Sublist ns ∧ z ∉ f z) : whyB (awa ns fun z => some ((f z).map V.str)) ns (fun z => some ((f z).map V.str)) as = ns.all fun z => explB (f z) as z := by
  unfold whyB
  rw [awa_of nd h, Bool.true_and]
  congr 1
  funext z
  show explB (strsOf ((f z).map V.str)) as z = _
  rw [strsOf_map]
theorem most_ok (ns : List Str) (as : List An) (z : Str) : (mostW ns as z).Sublist ns ∧ z ∉ mostW ns as z := ⟨List.filter_sublist, fun h => (mem_most.mp h).2.1 rfl⟩
theorem putK_new {kvs : List (Key × V)} {k : Key} {v : V} (h : k ∉ kvs.map (·.1)) : putK kvs k v = kvs ++ [(k, v)] := by
  unfold putK
  rw [if_neg]
  intro q
  obtain ⟨p, hp, e⟩ := List.any_eq_true.mp q
  exact h (by rw [← of_decide_eq_true e]; exact List.mem_map_of_mem hp)
theorem valV_none {kvs : List (Key × V)} {k : Key} (h : k ∉ kvs.map (·.1)) : valV kvs k = none := by
  cases e : valV kvs k with
  | none => rfl
  | some v =>
    have q := valV_any k kvs
    rw [e] at q
    obtain ⟨p, hp, e2⟩ := List.any_eq_true.mp q
    exact absurd (by rw [← of_decide_eq_true e2]; exact List.mem_map_of_mem hp) h
def spWhy (P : Program) (w : World) (K : PySem.W.Frag) : Sp := fun vs H Q _ => ∃ (n : Addr) (x : V) (s : Addr) (ns : List Str) (b : Bool) (m : Str → Option (List V)) (as : List An), vs = [.ref n, x, .ref s] ∧ Told K H n ns s as ∧ WtV P w K H ns x b m ∧ ∀ H', Same H H' → Q (.bl (whyB b ns m as)) H'
def GrV (H : Hp) (v : V) (ns : List Str) (as : List An) : Prop := (allB ns as = true → ∃ d, v = .ref d ∧ DM H d ns (mostW ns as)) ∧ (allB ns as = false → v = .non)
def spGreat (K : PySem.W.Frag) : Sp := fun vs H Q _ => ∃ (n s : Addr) (ns : List Str) (as : List An), vs = [.ref n, .ref s] ∧ Told K H n ns s as ∧ ∀ v H', Same H H' → GrV H' v ns as → Q v H'
section
variable {P : Program} {w : World} {K : PySem.W.Frag} {mg : Str → Option Value} {base : Heap}
theorem cal_explains (Z : All K mg) : Cal P w K mg base CX0 7 "explains" ["names", "wants", "seen"] (spWhy P w K) := by
  obtain ⟨fd, F⟩ := Z.f_explains
  have C_must_be_seen : Cal P w K mg base CX0 6 "must_be_seen" ["names", "seen"] (spMbs K) := cal_must_be_seen Z
  have C_are_wants_of_all : Cal P w K mg base CX0 4 "are_wants_of_all" ["names", "value"] (spAwa P w K) := cal_are_wants_of_all Z
  have C_is_explained : Cal P w K mg base CX0 1 "is_explained" ["want", "seen", "skill"] (spExpl K) := cal_is_explained Z
  refine .of ⟨fd, F, ok0 F sc_explains (fun vs H Q E h => ?_) (fun cdv A outer s H vs Q E hr h => ?_)⟩ Z.g_explains (fun _ _ _ _ _ _ us hl => match us, hl with | [_, _, _], _ => rfl)
  · obtain ⟨n, x, sa, ns, b, m, as, rfl, _⟩ := h
    rfl
  · obtain ⟨n, x, sa, ns, b, m, as, rfl, td, wt, k⟩ := h
    refine ⟨_, (pss_cons (ps_expr (pe_cal C_must_be_seen (hr.mono (by decide)) (by rfl) pass0 (pa_cons (pv 0) (pa_cons (pv 2) pa_nil))))
      (pss_cons (ps_if (pt_not (pt_val (pe_cal C_are_wants_of_all (hr.mono (by decide)) (by rfl) pass0 (pa_cons (pv 0) (pa_cons (pv 1) pa_nil))))) (pss_one (ps_ret pe_bl)) pss_nil)
      (pss_one (ps_ret (pe_callB (cr_all rfl) (by rfl) Z.b_all boot_all (pa_cons (pe_lc (own := [("skill", 3)]) (by rfl) sc_explains.nd (pi_seq (pv 0)) (blkOk_by (own := [("skill", 3)]) (N := ["names", "wants", "seen", "skill"]) (sc := defScope s_explains) (by decide +kernel)) (fun _ _ _ _ _ => (pg_name (i := 3) sc_explains.nd rfl (Or.inl rfl))) (fun _ _ _ _ _ => pts_nil) (fun _ _ _ _ _ => (pe_cal C_is_explained (hr.mono (by decide)) (by rfl) pass0 (pa_cons (pe_dget (hu_of hr) (pv 1) (pv 3) (fun _ _ => rfl)) (pa_cons (pv 2) (pa_cons (pv 3) pa_nil)))))) pa_nil)))))), ?_⟩
    have l12 := td.nm.le
    refine ⟨_, rfl, _, rfl, n, ns, sa, as, rfl, td, fun H1 s1 => ?_⟩
    have td1 := td.same s1
    have wt1 := wt.same s1
    refine ⟨_, rfl, _, rfl, n, x, ns, b, m, rfl, td1.names.sq, by omega, td.nm.oks, wt1, fun H2 s2 => ⟨_, rfl, ?_⟩⟩
    refine ifB (fun e => ?_) (fun e => ?_)
    · have z : whyB b ns m as = false := by
        rw [Bool.not_eq_true'] at e
        unfold whyB
        rw [e]
        rfl
      rw [z] at k
      exact k _ (s1.trans s2)
    · rw [Bool.not_eq_false'] at e
      have td2 := td1.same s2
      obtain ⟨d, rfl, dw2, eb⟩ : ∃ d, x = .ref d ∧ DW K H2 d ns m ∧ b = awa ns m := by
        cases wt1.same s2 with
        | no _ _ _ => cases e
        | len _ _ _ => cases e
        | non _ _ _ _ => cases e
        | dw h => exact ⟨_, rfl, h, rfl⟩
      rw [eb] at e k
      obtain ⟨kvs, hd, hk, hv⟩ := dw2.ex
      obtain ⟨xs, hs, ps⟩ := td2.seen
      refine ⟨_, rfl, n, rfl, lc_seq td2.names.sq (fun i => (ns.take i).map fun z => V.bl (explB (strsOf ((m z).getD [])) as z)) rfl (fun T nT i y Hy hi' p => ?_) fun T H5 nT s5 at5 => ?_⟩
      · obtain ⟨z, rfl, hz⟩ := strs_get hi'
        have zin := List.mem_of_getElem? hz
        obtain ⟨v, hv1, hv2⟩ := hv z zin
        have oz := (Bool.and_eq_true_iff.mp (List.all_eq_true.mp e z zin)).1
        cases mz : m z with
        | none =>
          rw [mz] at oz
          cases oz
        | some ws =>
          rw [mz] at oz hv2
          obtain ⟨b, rfl, hb, _, hl⟩ := hv2
          have un : unlike ns ws = true := (Bool.and_eq_true_iff.mp oz).1
          have back := (unlike_back un).1
          have ll := (unlike_back un).2.2.2
          rw [back] at hb
          have lw : (strsOf ws).length ≤ 60 := by
            have := congrArg List.length back
            rw [List.length_map] at this
            omega
          refine ⟨rfl, _, rfl, _, rfl, d, .ref b, rfl, ?_, _, rfl, _, rfl, b, sa, strsOf ws, z, xs, as, rfl, .inr (sqT_same p.same hb), lw, hs.sq.same p.same, paired_mono (fun x w q => ant_mono _ _ _ _ (Tk.of p.same) q) ps, td.le, fun H6 s6 => ?_⟩
          · rw [← hv1]
            exact DGet.k (k := .inr z) (p.same _ _ hd)
          · have e2 : strsOf ws = strsOf ((m z).getD []) := by rw [mz]; rfl
            rw [e2]
            exact (p.ext s6).put nT (map_one _ hz) (take_line _ (m := 60) (by omega) (by decide))
      · rw [List.length_map, List.take_length] at at5
        refine ⟨T, ns.map fun z => explB (strsOf ((m z).getD [])) as z, rfl, SqL.of (by rw [at5, List.map_map]; rfl), ?_⟩
        have e1 : (ns.map fun z => explB (strsOf ((m z).getD [])) as z).all id = whyB (awa ns m) ns m as := by
          unfold whyB
          rw [e, Bool.true_and]
          simp [List.all_map]
        rw [e1]
        exact k _ ((s1.trans s2).trans s5)
theorem cal_greatest_wants (Z : All K mg) : Cal P w K mg base CX0 8 "greatest_wants" ["names", "seen"] (spGreat K) := by
  obtain ⟨fd, F⟩ := Z.f_greatest_wants
  have C_must_be_seen : Cal P w K mg base CX0 6 "must_be_seen" ["names", "seen"] (spMbs K) := cal_must_be_seen Z
  have C_most_wanted : Cal P w K mg base CX0 1 "most_wanted" ["names", "seen", "skill"] (spMost K) := cal_most_wanted Z
  have C_explains : Cal P w K mg base CX0 7 "explains" ["names", "wants", "seen"] (spWhy P w K) := cal_explains Z
  refine .of ⟨fd, F, ok0 F sc_greatest_wants (fun vs H Q E h => ?_) (fun cdv A outer s H vs Q E hr h => ?_)⟩ Z.g_greatest_wants (fun _ _ _ _ _ _ us hl => match us, hl with | [_, _], _ => rfl)
  · obtain ⟨n, sa, ns, as, rfl, _⟩ := h
    rfl
  · obtain ⟨n, sa, ns, as, rfl, td, k⟩ := h
    refine ⟨_, (pss_cons (ps_expr (pe_cal C_must_be_seen (hr.mono (by decide)) (by rfl) pass0 (pa_cons (pv 0) (pa_cons (pv 1) pa_nil))))
      (pss_cons (ps_setDc (i := 2) (own := [("skill", 3)]) (by rfl) sc_greatest_wants.nd rfl rfl (sw_trueD rfl rfl rfl (by decide +kernel)) (pi_seq (pv 0)) (blkOk_by (own := [("skill", 3)]) (N := ["names", "seen", "wants", "skill"]) (sc := defScope s_greatest_wants) (by decide +kernel)) (fun _ _ _ _ _ => (pg_name (i := 3) sc_greatest_wants.nd rfl (Or.inl rfl))) (fun _ _ _ _ _ => pts_nil) (fun _ _ _ _ _ => (pv 3)) (fun _ _ _ _ _ => (pe_cal C_most_wanted (hr.mono (by decide)) (by rfl) pass0 (pa_cons (pv 0) (pa_cons (pv 1) (pa_cons (pv 3) pa_nil))))))
      (pss_one (ps_ret (pe_ifExp (pt_val (pe_cal C_explains (hr.mono (by decide)) (by rfl) pass0 (pa_cons (pv 0) (pa_cons (pv 2) (pa_cons (pv 1) pa_nil))))) (pv 2) pe_non))))), ?_⟩
    have l12 := td.nm.le
    refine ⟨_, rfl, _, rfl, n, ns, sa, as, rfl, td, fun H1 s1 => ?_⟩
    have td1 := td.same s1
    obtain ⟨xs, hs, ps⟩ := td1.seen
    refine ⟨_, rfl, n, rfl, dc_seqS td1.names.sq (fun D i H => Same H1 H ∧ ∃ kvs : List (Key × V), H D = some (.dK kvs) ∧ kvs.map (·.1) = (ns.take i).map Sum.inr ∧ ∀ z ∈ ns.take i, ∃ r, valV kvs (.inr z) = some (.ref r) ∧ H r = some (.tup ((mostW ns as z).map V.str)))
      (fun D nD => ⟨Same.new nD, [], upd_same, rfl, fun z hz => (nomatch hz)⟩) (fun D i H p => p.1) (fun D nD i y Hy hi' p => ?_) fun D H2 nD p => ?_⟩
    · obtain ⟨z, rfl, hz⟩ := strs_get hi'
      obtain ⟨sy, kvs, hD, hk, hv⟩ := p
      have ps2 : Paired (AnT Hy) xs as := paired_mono (fun x w q => ant_mono _ _ _ _ (Tk.of sy) q) ps
      refine ⟨rfl, _, rfl, _, rfl, _, rfl, _, rfl, n, sa, ns, z, xs, as, rfl, td1.names.sq.same sy, by omega, hs.sq.same sy, ps2, td.le, fun r H5 s5 hr5 => ?_⟩
      have tk1 : (ns.take (i + 1)) = ns.take i ++ [z] := take_one hz
      have nin : z ∉ ns.take i := fun q => by
        have nd : (ns.take i ++ [z]).Nodup := by
          rw [← tk1]
          exact td.nm.nd.sublist (List.take_sublist _ _)
        exact (List.nodup_append.mp nd).2.2 z q z List.mem_cons_self rfl
      have nk : (Sum.inr z : Key) ∉ kvs.map (·.1) := by
        rw [hk]
        intro q
        obtain ⟨y, hy, e⟩ := List.mem_map.mp q
        cases e
        exact nin hy
      have hD5 := s5 _ _ hD
      have lk : kvs.length ≤ 12 := by
        have := congrArg List.length hk
        rw [List.length_map, List.length_map] at this
        have q : (ns.take i).length ≤ ns.length := List.length_take_le' _ _
        omega
      refine ⟨kvs, .inr z, rfl, hD5, line_of lk (by decide), ?_⟩
      rw [putK_new nk]
      have tk : Tk H5 (upd H5 D (.dK (kvs ++ [(.inr z, .ref r)]))) := Tk.dct hD5
      refine ⟨fun b o hb => ?_, _, upd_same, ?_, fun y hy => ?_⟩
      · rw [upd_ne (ne_of_none hb nD)]
        exact s5 _ _ (sy _ _ hb)
      · rw [List.map_append, hk, tk1, List.map_append]
        rfl
      · rw [tk1] at hy
        have nv := valV_none nk
        rw [valV_snoc _ _ _ _ nv]
        rcases List.mem_append.mp hy with hy | hy
        · obtain ⟨r2, h1, h2⟩ := hv y hy
          refine ⟨r2, ?_, tk _ _ (s5 _ _ h2)⟩
          rw [if_neg (fun e => nin (by injection e with e; rw [← e]; exact hy))]
          exact h1
        · rw [List.mem_singleton.mp hy]
          exact ⟨r, by rw [if_pos rfl], tk _ _ hr5⟩
    · rw [List.length_map, List.take_length] at p
      obtain ⟨s2, dm⟩ := p
      have dm : DM H2 D ns (mostW ns as) := dm
      have td2 := td1.same s2
      refine ⟨_, rfl, _, rfl, _, rfl, n, .ref D, sa, ns, _, _, as, rfl, td2, .dw (dm.dw fun z _ => ?_), fun H3 s3 => ?_⟩
      · have := (most_ok ns as z).1.length_le
        omega
      · rw [why_of td.nm.nd fun z _ => most_ok ns as z]
        show ∃ c, _
        refine ⟨_, rfl, ?_⟩
        refine ifB (fun e => ?_) (fun e => ?_)
        · exact ⟨_, rfl, k _ _ ((s1.trans s2).trans s3) ⟨fun _ => ⟨D, rfl, dm.same s3⟩, fun e2 => by rw [show allB ns as = true from e] at e2; cases e2⟩⟩
        · exact k _ _ ((s1.trans s2).trans s3) ⟨fun e2 => (by rw [show allB ns as = false from e] at e2; cases e2), fun _ => rfl⟩
end
end Rt
end
section
set_option Elab.async false
set_option linter.all false
set_option maxRecDepth 100000
set_option maxHeartbeats 4000000
/-! the law's draws: names, parts of a list -/
namespace Rt
open PySem PySem.Spec PyProof.Rows L2
def T1 : List Str := ["a", "b", "c", "d"]
def T2 : List Str := ["z", "abcdefgh", "a", "b"]
def T3 : List Str := ["d", "c", "b", "a"]
/-- drawn names -/
def NmT (ns : List Str) : Prop := ∃ N m, (N = T1 ∨ N = T2 ∨ N = T3) ∧ 1 ≤ m ∧ m ≤ 4 ∧ ns = N.take m
def okNames (N : List Str) : Bool := decide N.Nodup && (N.all (fun z => isWord (.str z) && decide (z.length ≤ 1000)) && N.all PyData.strOk)
theorem ok_T : okNames T1 = true ∧ okNames T2 = true ∧ okNames T3 = true := by decide +kernel
theorem okNames_nm {N ns : List Str} (h : okNames N = true) (s : ns.Sublist N) (l : 1 ≤ ns.length) (l2 : ns.length ≤ 12) : Nm ns := by
  unfold okNames at h
  rw [Bool.and_eq_true, Bool.and_eq_true] at h
  obtain ⟨h1, h2, h3⟩ := h
  refine ⟨(of_decide_eq_true h1).sublist s, l, l2, fun z hz => ?_, fun z hz => List.all_eq_true.mp h3 z (s.subset hz)⟩
  have q := List.all_eq_true.mp h2 z (s.subset hz)
  rw [Bool.and_eq_true] at q
  exact ⟨q.1, of_decide_eq_true q.2⟩
theorem NmT.nm {ns : List Str} (h : NmT ns) : Nm ns ∧ ns.length ≤ 4 := by
  obtain ⟨N, m, hN, m1, m4, rfl⟩ := h
  have l4 : N.length = 4 := by rcases hN with rfl | rfl | rfl <;> rfl
  have lt : (N.take m).length = m := by
    rw [List.length_take, l4]
    omega
  refine ⟨okNames_nm (N := N) ?_ (List.take_sublist _ _) (by omega) (by omega), by omega⟩
  rcases hN with rfl | rfl | rfl
  · exact ok_T.1
  · exact ok_T.2.1
  · exact ok_T.2.2
def spTNames : Sp := fun vs H Q _ => ∃ (p : Addr) (t : Int), vs = [.ref p, .int t] ∧ PoolAt H p ∧ 1 ≤ t ∧ t ≤ 4 ∧ ∀ (n : Addr) (ns : List Str) (H' : Hp), H n = none → Aft p H H' → H' n = some (.tup (ns.map V.str)) → NmT ns → (ns.length : Int) ≤ t → Q (.ref n) H'
def spParts (K : PySem.W.Frag) : Sp := fun vs H Q _ => ∃ (a : Addr) (l : List Str), vs = [.ref a] ∧ SqL K H a (l.map V.str) ∧ l.length ≤ 12 ∧ ∀ (f : Addr) (xs : List V) (H' : Hp), H f = none → Same H H' → H' f = some (.lst xs) → Paired (BT H') xs (partsB l) → Q (.ref f) H'
theorem parts_take (l : List Str) (i : Nat) : ((l.take i).foldl partsF [[]]).length ≤ 2 ^ l.length := by
  rw [parts_len]
  show 1 * 2 ^ (l.take i).length ≤ _
  rw [Nat.one_mul]
  exact Nat.pow_le_pow_right (by decide) (List.length_take_le' _ _)
section
variable {P : Program} {w : World} {K : PySem.W.Frag} {mg : Str → Option Value} {base : Heap}
theorem cal_law_told_names (Z : All K mg) : Cal P w K mg base CX0 3 "_law_told_names" ["_law_pool_here", "_law_top"] spTNames := by
  obtain ⟨fd, F⟩ := Z.f_law_told_names
  have C_law_take : Cal P w K mg base CX0 1 "_law_take" ["_law_pool_here", "_law_bound"] spTake := cal_law_take Z
  have C_law_one : Cal P w K mg base CX0 2 "_law_one" ["_law_pool_here", "_law_things"] (spLone K) := cal_law_one Z
  refine .of ⟨fd, F, ok0 F sc_law_told_names (fun vs H Q E h => ?_) (fun cdv A outer s H vs Q E hr h => ?_)⟩ Z.g_law_told_names (fun _ _ _ _ _ _ us hl => match us, hl with | [_, _], _ => rfl)
  · obtain ⟨p, t, rfl, _⟩ := h
    rfl
  · obtain ⟨p, t, rfl, hp, t1, t4, k⟩ := h
    refine ⟨_, (pss_cons (ps_set (i := 2) sc_law_told_names.nd rfl (Or.inl rfl) (pe_cal C_law_one (hr.mono (by decide)) (by rfl) pass0 (pa_cons (pv 0) (pa_cons (pe_lst (pa_cons (pe_lst (pa_cons pe_str (pa_cons pe_str (pa_cons pe_str (pa_cons pe_str pa_nil))))) (pa_cons (pe_lst (pa_cons pe_str (pa_cons pe_str (pa_cons pe_str (pa_cons pe_str pa_nil))))) (pa_cons (pe_lst (pa_cons pe_str (pa_cons pe_str (pa_cons pe_str (pa_cons pe_str pa_nil))))) pa_nil)))) pa_nil))))
      (pss_one (ps_ret (pe_callTy call_tuple_of (by rfl) Z.b_tuple PyProof.Rows.boot_tuple (pa_cons (pe_slice sl_list (pv 2) po_none (po_some (pe_op op_add pe_int (pe_cal C_law_take (hr.mono (by decide)) (by rfl) pass0 (pa_cons (pv 0) (pa_cons (pv 1) pa_nil)))))) pa_nil))))), ?_⟩
    refine ⟨_, rfl, (by show 4 ≤ sizeLine; decide), fun l1 n1 => ⟨(by show 4 ≤ sizeLine; decide), fun l2 n2 => ⟨(by show 4 ≤ sizeLine; decide), fun l3 n3 => ⟨(by show 3 ≤ sizeLine; decide), fun l4 n4 => ?_⟩⟩⟩⟩
    have s4 : Same H (upd (upd (upd (upd H l1 (.lst (T1.map V.str))) l2 (.lst (T2.map V.str))) l3 (.lst (T3.map V.str))) l4 (.lst [.ref l1, .ref l2, .ref l3])) := (((Same.new n1).trans (Same.new n2)).trans (Same.new n3)).trans (Same.new n4)
    have a4 : (upd (upd (upd (upd H l1 (.lst (T1.map V.str))) l2 (.lst (T2.map V.str))) l3 (.lst (T3.map V.str))) l4 (.lst [.ref l1, .ref l2, .ref l3])) l4 = some (.lst [.ref l1, .ref l2, .ref l3]) := upd_same
    have a3 : (upd (upd (upd (upd H l1 (.lst (T1.map V.str))) l2 (.lst (T2.map V.str))) l3 (.lst (T3.map V.str))) l4 (.lst [.ref l1, .ref l2, .ref l3])) l3 = some (.lst (T3.map V.str)) := Same.new n4 _ _ upd_same
    have a2 : (upd (upd (upd (upd H l1 (.lst (T1.map V.str))) l2 (.lst (T2.map V.str))) l3 (.lst (T3.map V.str))) l4 (.lst [.ref l1, .ref l2, .ref l3])) l2 = some (.lst (T2.map V.str)) := Same.new n4 _ _ (Same.new n3 _ _ upd_same)
    have a1 : (upd (upd (upd (upd H l1 (.lst (T1.map V.str))) l2 (.lst (T2.map V.str))) l3 (.lst (T3.map V.str))) l4 (.lst [.ref l1, .ref l2, .ref l3])) l1 = some (.lst (T1.map V.str)) := Same.new n4 _ _ (Same.new n3 _ _ (Same.new n2 _ _ upd_same))
    obtain ⟨H4, e4⟩ : ∃ H4, H4 = (upd (upd (upd (upd H l1 (.lst (T1.map V.str))) l2 (.lst (T2.map V.str))) l3 (.lst (T3.map V.str))) l4 (.lst [.ref l1, .ref l2, .ref l3])) := ⟨_, rfl⟩
    have f2 : H l2 = none := (Same.new n1).free n2
    have f3 : H l3 = none := ((Same.new n1).trans (Same.new n2)).free n3
    have f4 : H l4 = none := (((Same.new n1).trans (Same.new n2)).trans (Same.new n3)).free n4
    have p1 := hp.ne n1
    have p2 := hp.ne f2
    have p3 := hp.ne f3
    have p4 := hp.ne f4
    show spLone K [.ref p, .ref l4] (upd (upd (upd (upd H l1 (.lst (T1.map V.str))) l2 (.lst (T2.map V.str))) l3 (.lst (T3.map V.str))) l4 (.lst [.ref l1, .ref l2, .ref l3])) _ E
    rw [← e4] at s4 a1 a2 a3 a4 ⊢
    clear e4
    have aft0 : Aft p H H4 := ⟨hp.same s4, fun b o _ hb => s4 _ _ hb⟩
    refine ⟨p, l4, _, rfl, aft0.pool, .inl (SqL.of a4), p4, (by show 0 < 3; decide), (by show 3 ≤ 1000; decide), fun x H5 hx a5 => ?_⟩
    obtain ⟨N, l, rfl, hl, np, hN⟩ : ∃ N l, x = .ref l ∧ H5 l = some (.lst (N.map V.str)) ∧ l ≠ p ∧ (N = T1 ∨ N = T2 ∨ N = T3) := by
      rcases List.mem_cons.mp hx with rfl | hx
      · exact ⟨T1, l1, rfl, a5.keep _ _ p1 a1, p1, .inl rfl⟩
      rcases List.mem_cons.mp hx with rfl | hx
      · exact ⟨T2, l2, rfl, a5.keep _ _ p2 a2, p2, .inr (.inl rfl)⟩
      · rw [List.mem_singleton.mp hx]
        exact ⟨T3, l3, rfl, a5.keep _ _ p3 a3, p3, .inr (.inr rfl)⟩
    have aft5 := aft0.trans a5
    refine ⟨_, rfl, _, rfl, _, rfl, p, t, rfl, aft5.pool, by omega, by omega, fun r H6 r0 r1 a6 => ?_⟩
    have aft6 := aft5.trans a6
    have hl6 := a6.keep _ _ np hl
    refine ⟨_, _, rfl, rfl, _, rfl, l, _, rfl, SqL.of hl6, fun sl fsl => ⟨sl, _, rfl, .inl ⟨SqL.of upd_same, fun n nn => ?_⟩⟩⟩
    have e7 : cutV (N.map V.str) none (some (1 + r)) = (N.take (1 + r).toNat).map V.str := by
      have z : (1 + r) = (((1 + r).toNat : Nat) : Int) := by omega
      rw [z, cut_take, List.map_take]
      rfl
    rw [e7] at nn ⊢
    have m1 : 1 ≤ (1 + r).toNat ∧ (1 + r).toNat ≤ 4 := by omega
    refine k n _ _ ((aft6.new fsl).free' nn) ((aft6.new fsl).new nn) upd_same ⟨N, _, hN, m1.1, m1.2, rfl⟩ (by rw [List.length_take]; omega)
theorem cal_law_parts (Z : All K mg) : Cal P w K mg base CX0 1 "_law_parts" ["_law_some"] (spParts K) := by
  obtain ⟨fd, F⟩ := Z.f_law_parts
  refine .of ⟨fd, F, ok0 F sc_law_parts (fun vs H Q E h => ?_) (fun cdv A outer s H vs Q E hr h => ?_)⟩ Z.g_law_parts (fun _ _ _ _ _ _ us hl => match us, hl with | [_], _ => rfl)
  · obtain ⟨a, l, rfl, _⟩ := h
    rfl
  · obtain ⟨a, l, rfl, ha, l12, k⟩ := h
    refine ⟨_, (pss_cons (ps_set (i := 1) sc_law_parts.nd rfl (Or.inl rfl) (pe_lst (pa_cons (pe_tup pa_nil) pa_nil)))
      (pss_cons (ps_for PassesOwn.never rfl (pi_seq (pv 0)) (pg_name (i := 2) sc_law_parts.nd rfl (Or.inr rfl)) (pss_one (ps_set (i := 1) sc_law_parts.nd rfl (Or.inl rfl) (pe_op op_cat (pv 1) (pe_lc (own := [("_law_row", 3)]) (by rfl) sc_law_parts.nd (pi_seq (pv 1)) (blkOk_by (own := [("_law_row", 3)]) (N := ["_law_some", "_law_found", "_law_name", "_law_row"]) (sc := defScope s_law_parts) (by decide +kernel)) (fun _ _ _ _ _ => (pg_name (i := 3) sc_law_parts.nd rfl (Or.inl rfl))) (fun _ _ _ _ _ => pts_nil) (fun _ _ _ _ _ => (pe_op (show OpR _ (binaryOp .Add) (rCatA K) from op_catA) (pv 3) (pe_tup (pa_cons (pv 2) pa_nil)))))))))
      (pss_one (ps_ret (pv 1))))), ?_⟩
    refine ⟨Nat.zero_le _, fun e1 ne1 => ⟨(by show 1 ≤ sizeLine; decide), fun fo nfo => ?_⟩⟩
    have fofree : H fo = none := (Same.new ne1).free nfo
    have s2 : Same H (upd (upd H e1 (.tup [])) fo (.lst [.ref e1])) := (Same.new ne1).trans (Same.new nfo)
    refine ⟨_, rfl, a, rfl, .inl ⟨⟨_, s2.seq ha⟩, ?_⟩⟩
    have b4 : 2 ^ l.length ≤ 4096 := Nat.pow_le_pow_right (n := 2) (by decide) l12
    refine for_list (K := K) (a := a) (xs := l.map V.str) (fun i σ H6 => ∃ (fo : Addr) (xf : List V) (s2 : Option V), σ = [some (.ref a), some (.ref fo), s2, none] ∧ Same H H6 ∧ H fo = none ∧ H6 fo = some (.lst xf) ∧ Paired (BT H6) xf ((l.take i).foldl partsF [[]]))
      ⟨fo, [.ref e1], none, rfl, s2, fofree, upd_same, .cons ⟨e1, rfl, Same.new nfo _ _ upd_same⟩ .nil⟩ (fun i σ H6 _ ⟨_, _, _, _, s, _⟩ => s.seq ha) ?_ ?_
    · rintro i y σ H6 hi ⟨fo, xf, sl, rfl, s6, ffo, hfo, pf⟩
      obtain ⟨z, rfl, hz⟩ := strs_get hi
      obtain ⟨acc, eacc⟩ : ∃ acc, acc = (l.take i).foldl partsF [[]] := ⟨_, rfl⟩
      rw [← eacc] at pf
      have lacc : acc.length ≤ 4096 := by
        have := parts_take l i
        rw [← eacc] at this
        omega
      have lxf : xf.length = acc.length := Paired.length pf
      have nx : (l.take (i + 1)).foldl partsF [[]] = partsF acc z := by
        rw [take_one hz, List.foldl_append, ← eacc]
        rfl
      have b12 : (l.take (i + 1)).length ≤ 12 := Nat.le_trans (List.length_take_le' _ _) l12
      have lrow : ∀ b ∈ acc, b.length ≤ 12 := fun b hb => by
        rw [eacc] at hb
        exact Nat.le_trans (mem_parts.mp hb).length_le (Nat.le_trans (List.length_take_le' _ _) l12)
      refine ⟨_, rfl, _, rfl, fo, rfl, lc_new (.inl (SqL.of hfo)) BT (fun j => (acc.take j).map fun b => b ++ [z]) rfl (fun D nD j y Hy hj pp => ?_) fun T HT ys nT sT hT pT => ?_⟩
      · obtain ⟨b, hb, q, rfl, hq⟩ := paired_at pf hj
        have hq2 := pp.same _ _ hq
        have lb := lrow b (List.mem_of_getElem? hb)
        have st : (acc.take (j + 1)).map (fun b => b ++ [z]) = (acc.take j).map (fun b => b ++ [z]) ++ [b ++ [z]] := map_one _ hb
        have sl : ((acc.take j).map fun b => b ++ [z]).length < sizeLine := take_line _ lacc (by decide)
        refine ⟨rfl, _, rfl, _, rfl, (by show 1 ≤ sizeLine; decide), fun t nt => ⟨q, t, b.map V.str, [.str z], rfl, rfl, SqT.of (Same.new nt _ _ hq2), SqT.of upd_same, ?_, fun e0 => ?_, fun _ e0 => (nomatch e0), fun _ _ u nu => ?_⟩⟩
        · rw [List.length_map]
          show b.length + 1 ≤ sizeLine
          rw [sizeLine_eq]
          omega
        · have e1 : b = [] := List.map_eq_nil_iff.mp e0
          refine (pp.ext bt_mono (Same.new nt)).put bt_mono nD ⟨t, rfl, ?_⟩ st sl
          rw [upd_same, e1]
          rfl
        · refine ((pp.ext bt_mono (Same.new nt)).ext bt_mono (Same.new nu)).put bt_mono nD ⟨u, rfl, ?_⟩ st sl
          rw [upd_same, List.map_append]
          rfl
      · rw [lxf, List.take_length] at pT
        have ly : ys.length = acc.length := by
          rw [Paired.length pT, List.length_map]
        refine ⟨_, _, _, _, rfl, rfl, sT _ _ hfo, hT, ?_, fun u nu => ?_⟩
        · rw [lxf, ly, sizeLine_eq]
          omega
        · have sU : Same H6 (upd HT u (.lst (xf ++ ys))) := sT.trans (Same.new nu)
          refine ⟨u, xf ++ ys, _, rfl, s6.trans sU, (s6.trans sT).free nu, upd_same, ?_⟩
          rw [nx]
          exact paired_app (paired_mono (fun x w r => bt_mono _ _ _ _ (Tk.new nu) r) pT) (paired_mono (fun x w r => bt_mono _ _ _ _ (Tk.of sU) r) pf)
    · rintro σ H6 ⟨fo, xf, sl, rfl, s6, ffo, hfo, pf⟩
      rw [List.length_map, List.take_length] at pf
      exact ⟨_, rfl, k fo xf H6 ffo s6 hfo pf⟩
end
end Rt
end
section
set_option Elab.async false
set_option linter.all false
set_option maxRecDepth 100000
set_option maxHeartbeats 8000000
/-! the law's draws: answers -/
namespace Rt
open PySem PySem.Spec PyProof.Rows L2
theorem paired_mem {α : Type} {R : V → α → Prop} {xs : List V} {ws : List α} {x : V} (h : Paired R xs ws) (hx : x ∈ xs) : ∃ w, w ∈ ws ∧ R x w := by
  obtain ⟨i, hi⟩ := List.getElem?_of_mem hx
  obtain ⟨w, h1, h2⟩ := paired_at h hi
  exact ⟨w, List.mem_of_getElem? h1, h2⟩
theorem parts_pos (l : List Str) : 0 < (partsB l).length := by
  show 0 < (l.foldl partsF [[]]).length
  rw [parts_len]
  show 0 < 1 * 2 ^ l.length
  rw [Nat.one_mul]
  exact Nat.two_pow_pos _
theorem parts_le (l : List Str) : (partsB l).length = 2 ^ l.length := by
  show (l.foldl partsF [[]]).length = _
  rw [parts_len]
  show 1 * 2 ^ l.length = _
  rw [Nat.one_mul]
theorem others_sub (ns : List Str) (z : Str) : (othersB ns z).Sublist ns := List.filter_sublist
/-- drawn wants: what some names have, each a part of all names -/
def WsAt (H : Hp) (d : Addr) (ns ks : List Str) : Prop := ∃ kvs : List (Key × V), H d = some (.dK kvs) ∧ kvs.length ≤ ks.length ∧ ∀ z ∈ ks, ∃ (r : Addr) (b : List Str), valV kvs (.inr z) = some (.ref r) ∧ H r = some (.tup (b.map V.str)) ∧ b.Sublist ns
def spAnswers (K : PySem.W.Frag) : Sp := fun vs H Q _ => ∃ (p n : Addr) (ns : List Str) (m : Int), vs = [.ref p, .ref n, .int m] ∧ PoolAt H p ∧ H n = some (.tup (ns.map V.str)) ∧ NmT ns ∧ 0 ≤ m ∧ m ≤ 10 ∧
  ∀ (f : Addr) (xs : List V) (as : List An) (H' : Hp), H f = none → Aft p H H' → H' f = some (.lst xs) → Paired (AnT H') xs as → (∀ a ∈ as, AnR ns a) → as.length ≤ 10 → Q (.ref f) H'
section
variable {P : Program} {w : World} {K : PySem.W.Frag} {mg : Str → Option Value} {base : Heap}
theorem cal_law_answers (Z : All K mg) : Cal P w K mg base CX0 3 "_law_answers" ["_law_pool_here", "_law_names", "_law_many"] (spAnswers K) := by
  obtain ⟨fd, F⟩ := Z.f_law_answers
  have C_law_take : Cal P w K mg base CX0 1 "_law_take" ["_law_pool_here", "_law_bound"] spTake := cal_law_take Z
  have C_law_one : Cal P w K mg base CX0 2 "_law_one" ["_law_pool_here", "_law_things"] (spLone K) := cal_law_one Z
  have C_law_parts : Cal P w K mg base CX0 1 "_law_parts" ["_law_some"] (spParts K) := cal_law_parts Z
  refine .of ⟨fd, F, ok0 F sc_law_answers (fun vs H Q E h => ?_) (fun cdv A outer s H vs Q E hr h => ?_)⟩ Z.g_law_answers (fun _ _ _ _ _ _ us hl => match us, hl with | [_, _, _], _ => rfl)
  · obtain ⟨p, n, ns, m, rfl, _⟩ := h
    rfl
  · obtain ⟨p, n, ns, m, rfl, hp, hn, nt, m0, m10, k⟩ := h
    obtain ⟨nm, l4⟩ := nt.nm
    refine ⟨_, (pss_cons (ps_set (i := 3) sc_law_answers.nd rfl (Or.inl rfl) pe_dnewK)
      (pss_cons (ps_for PassesOwn.never rfl (pi_seq (pv 1)) (pg_name (i := 4) sc_law_answers.nd rfl (Or.inr rfl)) (pss_one (ps_asg (pe_cal C_law_one (hr.mono (by decide)) (by rfl) pass0 (pa_cons (pv 0) (pa_cons (pe_cal C_law_parts (hr.mono (by decide)) (by rfl) pass0 (pa_cons (pe_lc (own := [("_law_other", 10)]) (by rfl) sc_law_answers.nd (pi_seq (pv 1)) (blkOk_by (own := [("_law_other", 10)]) (N := ["_law_pool_here", "_law_names", "_law_many", "_law_wants", "_law_name", "_law_found", "_law_turn", "_law_skill", "_law_build", "_law_lets", "_law_other"]) (sc := defScope s_law_answers) (by decide +kernel)) (fun _ _ _ _ _ => (pg_name (i := 10) sc_law_answers.nd rfl (Or.inl rfl))) (fun _ _ _ _ _ => (pts_one (pt_cmpR op_ne (pv 10) (pv 4) (nomark _)))) (fun _ _ _ _ _ => (pv 10))) pa_nil)) pa_nil))) (pg_sub (pv 3) (pv 4) (L2.set_dict (hu_of hr))))))
      (pss_cons (ps_set (i := 5) sc_law_answers.nd rfl (Or.inl rfl) (pe_lst pa_nil))
      (pss_cons (ps_for PassesOwn.never rfl (pi_range1 (by rfl) Z.b_range (pa_cons (pv 2) pa_nil)) (pg_name (i := 6) sc_law_answers.nd rfl (Or.inl rfl)) (pss_cons (ps_set (i := 7) sc_law_answers.nd rfl (Or.inr rfl) (pe_cal C_law_one (hr.mono (by decide)) (by rfl) pass0 (pa_cons (pv 0) (pa_cons (pv 1) pa_nil))))
      (pss_cons (ps_set (i := 8) sc_law_answers.nd rfl (Or.inr rfl) (pe_cal C_law_one (hr.mono (by decide)) (by rfl) pass0 (pa_cons (pv 0) (pa_cons (pe_cal C_law_parts (hr.mono (by decide)) (by rfl) pass0 (pa_cons (pe_lc (own := [("_law_other", 10)]) (by rfl) sc_law_answers.nd (pi_seq (pv 1)) (blkOk_by (own := [("_law_other", 10)]) (N := ["_law_pool_here", "_law_names", "_law_many", "_law_wants", "_law_name", "_law_found", "_law_turn", "_law_skill", "_law_build", "_law_lets", "_law_other"]) (sc := defScope s_law_answers) (by decide +kernel)) (fun _ _ _ _ _ => (pg_name (i := 10) sc_law_answers.nd rfl (Or.inl rfl))) (fun _ _ _ _ _ => (pts_one (pt_cmpR op_ne (pv 10) (pv 7) (nomark _)))) (fun _ _ _ _ _ => (pv 10))) pa_nil)) pa_nil))))
      (pss_cons (ps_set (i := 9) sc_law_answers.nd rfl (Or.inl rfl) (pe_cmpR (op_eqE hr.units) (pe_lc (own := [("_law_name", 4)]) (by rfl) sc_law_answers.nd (pi_seq (pe_dget (hu_of hr) (pv 3) (pv 7) (fun _ _ => rfl))) (blkOk_by (own := [("_law_name", 4)]) (N := ["_law_pool_here", "_law_names", "_law_many", "_law_wants", "_law_name", "_law_found", "_law_turn", "_law_skill", "_law_build", "_law_lets", "_law_other"]) (sc := defScope s_law_answers) (by decide +kernel)) (fun _ _ _ _ _ => (pg_name (i := 4) sc_law_answers.nd rfl (Or.inl rfl))) (fun _ _ _ _ _ => (pts_one (pt_cmpR (show OpR _ (compareOp .NotIn) (rIn K true) from op_notIn_seq) (pv 4) (pv 8) rfl))) (fun _ _ _ _ _ => (pv 4))) (pe_lst pa_nil) (nomark _)))
      (pss_one (ps_expr (pe_bm PySem.F.plainAttrs_list PySem.F.slot_list_append PySem.F.type_list_append mt_append (pv 5) (pa_cons (pe_tup (pa_cons (pv 8) (pa_cons (pv 7) (pa_cons (pe_ifExp (pt_cmpR op_gt (pe_cal C_law_take (hr.mono (by decide)) (by rfl) pass0 (pa_cons (pv 0) (pa_cons pe_int pa_nil))) pe_int (nomark _)) (pv 9) (pe_not (pv 9))) pa_nil)))) pa_nil))))))))
      (pss_one (ps_ret (pv 5))))))), ?_⟩
    have np : n ≠ p := by
      obtain ⟨x, y, hpp, _⟩ := hp
      exact ne_of hn hpp (by intro z; cases z)
    -- the list of the others of a name, as a list and its parts, one of them
    refine fun wd nwd => ?_
    have wp : wd ≠ p := hp.ne nwd
    refine ⟨_, rfl, n, rfl, .inr ⟨⟨_, SqT.of (Same.new nwd _ _ hn)⟩, ?_⟩⟩
    refine for_tup (K := K) (a := n) (xs := ns.map V.str) (fun i σ H2 => ∃ s4, σ = [some (.ref p), some (.ref n), some (.int m), some (.ref wd), s4, none, none, none, none, none, none] ∧ Aft p H H2 ∧ WsAt H2 wd ns (ns.take i))
      ⟨none, rfl, (Aft.refl hp).new nwd, [], upd_same, Nat.zero_le _, fun z hz => (nomatch hz)⟩ (fun i σ H2 _ ⟨_, _, a, _⟩ => SqT.of (a.keep _ _ np hn)) ?_ ?_
    · rintro i y σ H2 hi ⟨s4, rfl, a2, kvs, hwd, lk, hv⟩
      obtain ⟨z, rfl, hz⟩ := strs_get hi
      have hn2 := a2.keep _ _ np hn
      refine ⟨_, rfl, _, rfl, n, rfl, lc_seq (.inr (SqT.of hn2)) (fun j => ((ns.take j).filter fun x => !decide (x = z)).map V.str) rfl (fun D nD j y Hy hj pp => ?_) fun D H3 nD s3 at3 => ?_⟩
      · obtain ⟨x, rfl, hx⟩ := strs_get hj
        refine ⟨rfl, _, rfl, _, rfl, rfl, _, rfl, ?_⟩
        by_cases e : x = z
        · exact ifF (by rw [decide_eq_true (by rw [e])]; rfl) (pp.skip (filt_no V.str _ hx (by rw [decide_eq_true e]; rfl)))
        · refine ifT (by rw [decide_eq_false (by intro q; injection q with q; exact e q)]; rfl) ⟨_, rfl, pp.put nD (filt_one V.str _ hx (by rw [decide_eq_false e]; rfl)) (line_of (m := 60) ?_ (by decide))⟩
          rw [List.length_map]
          exact Nat.le_trans (List.length_filter_le _ _) (Nat.le_trans (List.length_take_le' _ _) (by omega))
      · rw [List.length_map, List.take_length] at at3
        have at3 : H3 D = some (.lst ((othersB ns z).map V.str)) := at3
        have lo : (othersB ns z).length ≤ 4 := by
          have : (othersB ns z).length ≤ ns.length := List.length_filter_le _ _
          omega
        refine ⟨D, othersB ns z, rfl, SqL.of at3, by omega, fun f xs H4 ff s4 hf pf => ?_⟩
        have a4 : Aft p H H4 := (a2.same s3).same s4
        have fp : f ≠ p := (a2.same s3).pool.ne ff
        have lx : xs.length = 2 ^ (othersB ns z).length := by
          rw [Paired.length pf, parts_le]
        have b16 : 2 ^ (othersB ns z).length ≤ 16 := Nat.pow_le_pow_right (n := 2) (by decide) lo
        have pos := Nat.two_pow_pos (othersB ns z).length
        refine ⟨p, f, xs, rfl, a4.pool, .inl (SqL.of hf), fp, by omega, by omega, fun x H5 hx a5 => ?_⟩
        obtain ⟨b, hb, r, rfl, hr'⟩ := paired_mem pf hx
        have sb := mem_parts.mp hb
        have tk5 := a5.tk a4.pool
        have hwd5 : H5 wd = some (.dK kvs) := a5.keep _ _ wp (s4 _ _ (s3 _ _ hwd))
        have lk4 : kvs.length ≤ 4 := by
          have : (ns.take i).length ≤ ns.length := List.length_take_le' _ _
          omega
        refine ⟨_, rfl, _, rfl, wd, _, rfl, DPut.k (k := .inr z) hwd5 (line_of (m := 4) lk4 (by decide)), ?_⟩
        have tk6 : Tk H5 (upd H5 wd (.dK (putK kvs (.inr z) (.ref r)))) := Tk.dct hwd5
        refine ⟨_, rfl, (a4.trans a5).put nwd wp, _, upd_same, ?_, fun y hy => ?_⟩
        · have := length_putK kvs (.inr z : Key) (.ref r)
          rw [take_one hz, List.length_append]
          show _ ≤ _ + 1
          omega
        · rw [valV_put]
          by_cases e : y = z
          · subst e
            exact ⟨r, b, by rw [if_pos rfl], tk6 _ _ (tk5 _ _ hr'), sb.trans (others_sub _ _)⟩
          · rw [if_neg (by intro q; injection q with q; exact e q)]
            rw [take_one hz] at hy
            rcases List.mem_append.mp hy with hy | hy
            · obtain ⟨r2, b2, h1, h2, h3⟩ := hv y hy
              exact ⟨r2, b2, h1, tk6 _ _ (tk5 _ _ (s4 _ _ (s3 _ _ h2))), h3⟩
            · exact absurd (List.mem_singleton.mp hy) e
    · rintro σ H2 ⟨s4, rfl, a2, ws⟩
      rw [List.length_map, List.take_length] at ws
      refine ⟨(by show 0 ≤ sizeLine; decide), fun fo nfo => ?_⟩
      have ffo : H fo = none := a2.free' nfo
      have fop : fo ≠ p := a2.pool.ne nfo
      have fow : fo ≠ wd := fun e => by
        obtain ⟨kvs, hwd, _⟩ := ws
        rw [e, hwd] at nfo
        cases nfo
      refine ⟨_, rfl, m, rfl, by omega, by omega, ?_⟩
      refine for_range (lo := 0) (n := m.toNat) (fun i σ H2 => ∃ s4 s6 s7 s8 s9 xs as, σ = [some (.ref p), some (.ref n), some (.int m), some (.ref wd), s4, some (.ref fo), s6, s7, s8, s9, none] ∧ Aft p H H2 ∧ WsAt H2 wd ns ns ∧ H2 fo = some (.lst xs) ∧ Paired (AnT H2) xs as ∧ (∀ a ∈ as, AnR ns a) ∧ as.length = i)
        ⟨s4, none, none, none, none, [], [], rfl, a2.new nfo, ?_, upd_same, .nil, fun a ha => (nomatch ha), rfl⟩ ?_ ?_
      · obtain ⟨kvs, h1, h2, h3⟩ := ws
        exact ⟨kvs, Same.new nfo _ _ h1, h2, fun z hz => let ⟨r, b, q1, q2, q3⟩ := h3 z hz; ⟨r, b, q1, Same.new nfo _ _ q2, q3⟩⟩
      · rintro i σ H2 hi ⟨s4, s6, s7, s8, s9, xs, as, rfl, a2, ws, hfo, pa, okA, lA⟩
        obtain ⟨kvs, hwd, lk, hv⟩ := ws
        have hn2 := a2.keep _ _ np hn
        have nl : (ns.map V.str).length = ns.length := List.length_map _
        have n1 := nm.ge
        -- the skill
        refine ⟨_, rfl, _, rfl, p, n, _, rfl, a2.pool, .inr (SqT.of hn2), np, by omega, by omega, fun x H3 hx a3 => ?_⟩
        obtain ⟨z, hz, rfl⟩ := List.mem_map.mp hx
        have hn3 := a3.keep _ _ np hn2
        -- the build
        refine ⟨_, rfl, _, rfl, n, rfl, lc_seq (.inr (SqT.of hn3)) (fun j => ((ns.take j).filter fun x => !decide (x = z)).map V.str) rfl (fun D nD j y Hy hj pp => ?_) fun D H4 nD s4' at4 => ?_⟩
        · obtain ⟨x, rfl, hx⟩ := strs_get hj
          refine ⟨rfl, _, rfl, _, rfl, rfl, _, rfl, ?_⟩
          by_cases e : x = z
          · exact ifF (by rw [decide_eq_true (by rw [e])]; rfl) (pp.skip (filt_no V.str _ hx (by rw [decide_eq_true e]; rfl)))
          · refine ifT (by rw [decide_eq_false (by intro q; injection q with q; exact e q)]; rfl) ⟨_, rfl, pp.put nD (filt_one V.str _ hx (by rw [decide_eq_false e]; rfl)) (line_of (m := 60) ?_ (by decide))⟩
            rw [List.length_map]
            exact Nat.le_trans (List.length_filter_le _ _) (Nat.le_trans (List.length_take_le' _ _) (by omega))
        · rw [List.length_map, List.take_length] at at4
          have at4 : H4 D = some (.lst ((othersB ns z).map V.str)) := at4
          have lo : (othersB ns z).length ≤ 4 := by
            have : (othersB ns z).length ≤ ns.length := List.length_filter_le _ _
            omega
          refine ⟨D, othersB ns z, rfl, SqL.of at4, by omega, fun f ys H5 ff s5 hf pf => ?_⟩
          have a5 : Aft p H H5 := ((a2.trans a3).same s4').same s5
          have a35 : Aft p H2 H5 := (a3.same s4').same s5
          have fp : f ≠ p := ((a2.trans a3).same s4').pool.ne ff
          have lx : ys.length = 2 ^ (othersB ns z).length := by
            rw [Paired.length pf, parts_le]
          have b16 : 2 ^ (othersB ns z).length ≤ 16 := Nat.pow_le_pow_right (n := 2) (by decide) lo
          have pos := Nat.two_pow_pos (othersB ns z).length
          refine ⟨p, f, ys, rfl, a5.pool, .inl (SqL.of hf), fp, by omega, by omega, fun x H6 hx a6 => ?_⟩
          obtain ⟨bu, hbu, rb, rfl, hrb⟩ := paired_mem pf hx
          have sbu := mem_parts.mp hbu
          have hrb6 := a6.tk a5.pool _ _ hrb
          have a26 : Aft p H2 H6 := a35.trans a6
          have hwd6 := a26.keep _ _ wp hwd
          obtain ⟨rw_, bw, v1, v2, v3⟩ := hv z hz
          have v26 := a26.tk a2.pool _ _ v2
          have lbw : bw.length ≤ 4 := Nat.le_trans v3.length_le l4
          have lbu : bu.length ≤ 4 := Nat.le_trans sbu.length_le lo
          -- whether it is let
          refine ⟨_, rfl, _, rfl, wd, .ref rw_, rfl, ?_, rw_, rfl, lc_seq (.inr (SqT.of v26)) (fun j => ((bw.take j).filter fun y => !decide (y ∈ bu)).map V.str) rfl (fun D2 nD2 j y Hy hj pp => ?_) fun D2 H7 nD2 s7' at7 => ?_⟩
          · rw [← v1]
            exact DGet.k (k := .inr z) hwd6
          · obtain ⟨y, rfl, hy⟩ := strs_get hj
            refine ⟨rfl, _, rfl, _, rfl, rb, _, rfl, .inr (SqT.of (pp.same _ _ hrb6)), rfl, flat_strsV _, _, rfl, ?_⟩
            show if (!inV (.str y) (bu.map V.str)) = true then _ else _
            rw [inV_strs]
            refine ifB (fun e => ?_) (fun e => ?_)
            · refine ⟨_, rfl, pp.put nD2 (filt_one V.str _ hy e) (line_of (m := 60) ?_ (by decide))⟩
              rw [List.length_map]
              exact Nat.le_trans (List.length_filter_le _ _) (Nat.le_trans (List.length_take_le' _ _) (by omega))
            · exact pp.skip (filt_no V.str _ hy e)
          · rw [List.length_map, List.take_length] at at7
            refine ⟨(by show 0 ≤ sizeLine; decide), fun e0 ne0 => ⟨D2, _, e0, rfl, rfl, SqL.of (Same.new ne0 _ _ at7), SqL.of upd_same, fun x hx => ?_, ?_⟩⟩
            · obtain ⟨y, hy, rfl⟩ := List.mem_map.mp hx
              exact ⟨.str y, .str y, sm_str (nm.oks y (v3.subset (List.mem_filter.mp hy).1))⟩
            · obtain ⟨lets, el⟩ : ∃ lets, lets = ((bw.filter fun y => !decide (y ∈ bu)).map V.str).isEmpty := ⟨_, rfl⟩
              rw [← el]
              have a28 : Aft p H2 (upd H7 e0 (.lst [])) := (a26.same s7').new ne0
              have s68 : Same H6 (upd H7 e0 (.lst [])) := s7'.trans (Same.new ne0)
              obtain ⟨H8, e8⟩ : ∃ H8, H8 = upd H7 e0 (.lst []) := ⟨_, rfl⟩
              rw [← e8] at a28 s68 ⊢
              have hfo8 := a28.keep _ _ fop hfo
              have hrb8 := s68 _ _ hrb6
              refine ⟨_, rfl, .inl ⟨rfl, _, SqL.of hfo8⟩, _, rfl, _, rfl, ?_⟩
              refine by_ (fun v H' => ∃ l2 : Bool, v = .bl l2 ∧ Aft p H8 H') (fun Q kQ => ?_) ?_
              · refine ⟨_, rfl, p, _, rfl, a28.pool, by decide, by decide, fun r H9 r0 r1 a9 => ⟨_, _, rfl, rfl, _, rfl, ifB (fun _ => ⟨_, rfl, kQ _ _ ⟨_, rfl, a9⟩⟩) (fun _ => ⟨_, rfl, _, rfl, kQ _ _ ⟨_, rfl, a9⟩⟩)⟩⟩
              · rintro v H9 ⟨l2, rfl, a9⟩
                have a29 := a28.trans a9
                have hfo9 := a9.keep _ _ fop hfo8
                have hrb9 := a9.tk a28.pool _ _ hrb8
                have lxs : xs.length ≤ 10 := by
                  rw [Paired.length pa]
                  omega
                refine ⟨(by show 3 ≤ sizeLine; decide), fun tp ntp => ⟨fo, xs, _, rfl, rfl, Same.new ntp _ _ hfo9, line_of (m := 10) lxs (by decide), ?_⟩⟩
                have tpf : tp ≠ fo := (ne_of_none hfo9 ntp).symm
                have tk2 : Tk H2 (upd (upd H9 tp (.tup [.ref rb, .str z, .bl l2])) fo (.lst (xs ++ [.ref tp]))) := ((a29.tk a2.pool).trans (Tk.new ntp)).trans (Tk.lst (xs := xs) (Same.new ntp _ _ hfo9))
                have tk9 : Tk H9 (upd (upd H9 tp (.tup [.ref rb, .str z, .bl l2])) fo (.lst (xs ++ [.ref tp]))) := (Tk.new ntp).trans (Tk.lst (xs := xs) (Same.new ntp _ _ hfo9))
                have hwd9 := a29.keep _ _ wp hwd
                refine ⟨_, _, _, _, _, xs ++ [.ref tp], as ++ [⟨bu, z, l2⟩], rfl, ((a2.trans a29).new ntp).put ffo fop, ⟨kvs, ?_, lk, fun y hy => ?_⟩, upd_same, ?_, fun a ha => ?_, ?_⟩
                · rw [upd_ne fow.symm]
                  exact Same.new ntp _ _ hwd9
                · obtain ⟨r, b, q1, q2, q3⟩ := hv y hy
                  exact ⟨r, b, q1, tk2 _ _ q2, q3⟩
                · refine paired_snoc ⟨tp, rb, rfl, ?_, tk9 _ _ hrb9⟩ (paired_mono (fun x w q => ant_mono _ _ _ _ tk2 q) pa)
                  rw [upd_ne tpf]
                  exact upd_same
                · rcases List.mem_append.mp ha with ha | ha
                  · exact okA a ha
                  · rw [List.mem_singleton.mp ha]
                    exact ⟨hz, fun q => (mem_others.mp (sbu.subset q)).2 rfl, sbu.trans (others_sub _ _)⟩
                · rw [List.length_append, lA]
                  rfl
      · rintro σ H2 ⟨s4, s6, s7, s8, s9, xs, as, rfl, a2, ws, hfo, pa, okA, lA⟩
        exact ⟨_, rfl, k fo xs as H2 ffo a2 hfo pa okA (by omega)⟩
end
end Rt
end
section
set_option Elab.async false
set_option linter.all false
/-! all wants of some names: the mathematics -/
namespace Rt
open PySem PySem.Spec PyProof.Rows L2
def rowsOf (ns : List Str) (z : Str) (row : List (List Str)) : List (List (List Str)) := (partsB (othersB ns z)).map fun b => row ++ [b]
def allW (ns : List Str) (zs : List Str) : List (List (List Str)) := zs.foldl (fun acc z => acc.flatMap (rowsOf ns z)) [[]]
/-- what a row has for a name -/
def lk : List Str → List (List Str) → Str → List Str
  | n :: ns, b :: row, z => if n = z then b else lk ns row z
  | _, _, _ => []
theorem mem_allF {ns : List Str} : ∀ (zs : List Str) (acc : List (List (List Str))) (r : List (List Str)), r ∈ zs.foldl (fun acc z => acc.flatMap (rowsOf ns z)) acc ↔ ∃ a s, a ∈ acc ∧ r = a ++ s ∧ s.length = zs.length ∧ ∀ (i : Nat) (z : Str) (b : List Str), zs[i]? = some z → s[i]? = some b → b.Sublist (othersB ns z)
  | [], acc, r => by
    constructor
    · intro h
      exact ⟨r, [], h, by simp, rfl, fun i z b h => by simp at h⟩
    · rintro ⟨a, s, ha, rfl, hl, _⟩
      rw [List.eq_nil_of_length_eq_zero hl, List.append_nil]
      exact ha
  | z :: zs, acc, r => by
    rw [List.foldl_cons, mem_allF zs]
    constructor
    · rintro ⟨a, s, ha, rfl, hl, hs⟩
      obtain ⟨a0, h0, h1⟩ := List.mem_flatMap.mp ha
      obtain ⟨b, hb, rfl⟩ := List.mem_map.mp h1
      refine ⟨a0, b :: s, h0, by simp, by rw [List.length_cons, List.length_cons, hl], fun i y c hy hc => ?_⟩
      cases i with
      | zero =>
        simp at hy hc
        subst hy hc
        exact mem_parts.mp hb
      | succ i => exact hs i y c (by simpa using hy) (by simpa using hc)
    · rintro ⟨a, s, ha, rfl, hl, hs⟩
      cases s with
      | nil => simp at hl
      | cons b s =>
        refine ⟨a ++ [b], s, List.mem_flatMap.mpr ⟨a, ha, List.mem_map_of_mem (mem_parts.mpr (hs 0 z b rfl rfl))⟩, by simp, by simpa using hl, fun i y c hy hc => hs (i + 1) y c (by simpa using hy) (by simpa using hc)⟩
theorem mem_allW {ns : List Str} {zs : List Str} {r : List (List Str)} : r ∈ allW ns zs ↔ r.length = zs.length ∧ ∀ (i : Nat) (z : Str) (b : List Str), zs[i]? = some z → r[i]? = some b → b.Sublist (othersB ns z) := by
  unfold allW
  rw [mem_allF]
  constructor
  · rintro ⟨a, s, ha, rfl, hl, hs⟩
    rw [List.mem_singleton.mp ha]
    exact ⟨hl, hs⟩
  · rintro ⟨hl, hs⟩
    exact ⟨[], r, List.mem_singleton_self _, rfl, hl, hs⟩
theorem len_flat {α β : Type} {f : α → List β} {c : Nat} : ∀ {l : List α}, (∀ x ∈ l, (f x).length ≤ c) → (l.flatMap f).length ≤ l.length * c
  | [], _ => by simp
  | x :: l, h => by
    have ih := len_flat (l := l) fun y hy => h y (List.mem_cons_of_mem _ hy)
    have hx := h x List.mem_cons_self
    rw [List.flatMap_cons, List.length_append, List.length_cons, Nat.add_mul]
    omega
theorem rowsOf_len {ns : List Str} (l : ns.length ≤ 3) {z : Str} (hz : z ∈ ns) (row : List (List Str)) : (rowsOf ns z row).length ≤ 4 := by
  unfold rowsOf
  rw [List.length_map]
  show ((othersB ns z).foldl partsF [[]]).length ≤ 4
  rw [parts_len]
  have : (othersB ns z).length < ns.length := by
    unfold othersB
    rw [← List.countP_eq_length_filter]
    rcases Nat.lt_or_ge (List.countP (fun y => !decide (y = z)) ns) ns.length with h | h
    · exact h
    · have e := List.countP_eq_length.mp (Nat.le_antisymm List.countP_le_length h) z hz
      simp at e
  have q : 2 ^ (othersB ns z).length ≤ 2 ^ 2 := Nat.pow_le_pow_right (by decide) (by omega)
  show 1 * 2 ^ (othersB ns z).length ≤ 4
  omega
theorem allW_snoc {ns zs : List Str} {z : Str} : allW ns (zs ++ [z]) = (allW ns zs).flatMap (rowsOf ns z) := by
  unfold allW
  rw [List.foldl_append]
  rfl
theorem allW_len {ns : List Str} (l : ns.length ≤ 3) : ∀ i, i ≤ ns.length → (allW ns (ns.take i)).length ≤ 4 ^ i
  | 0, _ => by simp [allW]
  | i + 1, h => by
    have ih := allW_len l i (by omega)
    have hi : i < ns.length := h
    have e : ns.take (i + 1) = ns.take i ++ [ns[i]] := by rw [List.take_succ, List.getElem?_eq_getElem hi]; rfl
    rw [e, allW_snoc]
    have := len_flat (l := allW ns (ns.take i)) (c := 4) fun row _ => rowsOf_len l (List.getElem_mem hi) row
    rw [Nat.pow_succ]
    omega
theorem lk_at : ∀ {ns : List Str} {row : List (List Str)} {i : Nat} {z : Str} {b : List Str}, ns.Nodup → ns[i]? = some z → row[i]? = some b → lk ns row z = b
  | n :: ns, c :: row, 0, z, b, _, h1, h2 => by
    simp at h1 h2
    subst h1 h2
    simp [lk]
  | n :: ns, c :: row, i + 1, z, b, nd, h1, h2 => by
    have nd' := List.nodup_cons.mp nd
    have hz : z ∈ ns := List.mem_of_getElem? (by simpa using h1)
    have ne : ¬ n = z := fun e => nd'.1 (e ▸ hz)
    show (if n = z then c else lk ns row z) = b
    rw [if_neg ne]
    exact lk_at nd'.2 (by simpa using h1) (by simpa using h2)
  | [], _, _, _, _, _, h1, _ => by simp at h1
  | _ :: _, [], _, _, _, _, _, h2 => by simp at h2
theorem lk_map {ns : List Str} {f : Str → List Str} (nd : ns.Nodup) {z : Str} (hz : z ∈ ns) : lk ns (ns.map f) z = f z := by
  obtain ⟨i, hi⟩ := List.getElem?_of_mem hz
  exact lk_at nd hi (by rw [List.getElem?_map, hi]; rfl)
/-- what the law tells of wants -/
def okAns (f : Str → List Str) (a : An) : Bool := decide (a.lets = ((f a.skill).filter fun y => !decide (y ∈ a.build)).isEmpty)
def rightB (f : Str → List Str) (as : List An) : Bool := as.all (okAns f)
theorem right_iff {ns : List Str} {f : Str → List Str} {as : List An} (h : ∀ a ∈ as, a.skill ∈ ns) : (ns.all fun z => explB (f z) as z) = rightB f as := by
  have e : ∀ a : An, ((f a.skill).filter fun y => !decide (y ∈ a.build)).isEmpty = true ↔ ∀ y ∈ f a.skill, y ∈ a.build := fun a => by
    rw [isE]
    constructor
    · intro h y hy
      exact Classical.byContradiction fun n => h y (List.mem_filter.mpr ⟨hy, by rw [decide_eq_false n]; rfl⟩)
    · intro h y hy
      obtain ⟨h1, h2⟩ := List.mem_filter.mp hy
      rw [decide_eq_true (h y h1)] at h2
      cases h2
  rw [Bool.eq_iff_iff, List.all_eq_true]
  unfold rightB
  rw [List.all_eq_true]
  constructor
  · intro k a ha
    refine decide_eq_true ?_
    rw [Bool.eq_iff_iff, e]
    exact expl_iff.mp (k a.skill (h a ha)) a ha rfl
  · intro k z hz
    refine expl_iff.mpr fun a ha ez => ?_
    have q := of_decide_eq_true (k a ha)
    rw [q, e, ez]
/-- some row is right just if the greatest one is -/
theorem none_right {ns : List Str} {as : List An} (nd : ns.Nodup) (h : ∀ a ∈ as, a.skill ∈ ns) : ((allW ns ns).filter fun row => rightB (lk ns row) as).isEmpty = !(ns.all fun z => explB (mostW ns as z) as z) := by
  rw [Bool.eq_iff_iff, isE, Bool.not_eq_true', ← Bool.not_eq_true]
  constructor
  · intro k q
    refine k (ns.map (mostW ns as)) (List.mem_filter.mpr ⟨mem_allW.mpr ⟨List.length_map _, fun i z b hz hb => ?_⟩, ?_⟩)
    · rw [List.getElem?_map, hz] at hb
      cases hb
      exact most_sub
    · rw [← right_iff h, List.all_eq_true]
      intro z hz
      rw [lk_map nd hz]
      exact List.all_eq_true.mp q z hz
  · intro k row hrow
    obtain ⟨h1, h2⟩ := List.mem_filter.mp hrow
    obtain ⟨hl, hs⟩ := mem_allW.mp h1
    refine k ?_
    rw [← right_iff h, List.all_eq_true] at h2
    rw [List.all_eq_true]
    intro z hz
    obtain ⟨i, hi⟩ := List.getElem?_of_mem hz
    have il : i < row.length := by rw [hl]; exact (List.getElem?_eq_some_iff.mp hi).1
    have hb : row[i]? = some row[i] := List.getElem?_eq_getElem il
    have e := lk_at nd hi hb
    have ex := h2 z hz
    rw [e] at ex
    exact expl_between ex (fit_most (mem_fit.mpr ⟨hs i z _ hi hb, ex⟩)) fun y hy => hy
end Rt
end
section
set_option Elab.async false
set_option linter.all false
set_option maxRecDepth 100000
set_option maxHeartbeats 8000000
/-! the law's look: all wants, which are right -/
namespace Rt
open PySem PySem.Spec PyProof.Rows L2
/-- a dict from some names to tuples, by a row -/
def WDt (H : Hp) (zs : List Str) (x : V) (row : List (List Str)) : Prop := ∃ d kvs, x = .ref d ∧ H d = some (.dK kvs) ∧ kvs.map (·.1) = zs.map (Sum.inr : Str → Key) ∧ Paired (fun (kv : Key × V) (b : List Str) => BT H kv.2 b) kvs row
theorem pairedG_mono {α β : Type} {R S : α → β → Prop} (h : ∀ x w, R x w → S x w) : ∀ {xs : List α} {ws : List β}, Paired R xs ws → Paired S xs ws
  | _, _, .nil => .nil
  | _, _, .cons r t => .cons (h _ _ r) (pairedG_mono h t)
theorem pairedG_snoc {α β : Type} {R : α → β → Prop} {x : α} {w : β} (r : R x w) : ∀ {xs : List α} {ws : List β}, Paired R xs ws → Paired R (xs ++ [x]) (ws ++ [w])
  | _, _, .nil => .cons r .nil
  | _, _, .cons q t => .cons q (pairedG_snoc r t)
theorem pairedG_at {α β : Type} {R : α → β → Prop} : ∀ {xs : List α} {ws : List β} {i : Nat} {x : α}, Paired R xs ws → xs[i]? = some x → ∃ w, ws[i]? = some w ∧ R x w
  | _, _, _, _, .nil, e => by simp at e
  | _, _, 0, _, .cons r _, e => by
    simp at e
    subst e
    exact ⟨_, rfl, r⟩
  | _, _, i + 1, x, .cons _ t, e => by
    obtain ⟨w, h1, h2⟩ := pairedG_at (i := i) (x := x) t (by simpa using e)
    exact ⟨w, by simpa using h1, h2⟩
theorem WDt.same {H H' : Hp} {zs : List Str} {x : V} {row : List (List Str)} (h : WDt H zs x row) (s : Same H H') : WDt H' zs x row := by
  obtain ⟨d, kvs, e, h1, h2, h3⟩ := h
  exact ⟨d, kvs, e, s _ _ h1, h2, pairedG_mono (fun kv b q => bt_mono _ _ _ _ (Tk.of s) q) h3⟩
theorem wdts_same {H H' : Hp} {zs : List Str} {xs : List V} {rows : List (List (List Str))} (h : Paired (WDt H zs) xs rows) (s : Same H H') : Paired (WDt H' zs) xs rows := paired_mono (fun _ _ q => q.same s) h
theorem valV_row {zs : List Str} {kvs : List (Key × V)} {row : List (List Str)} {H : Hp} (hk : kvs.map (·.1) = zs.map (Sum.inr : Str → Key)) (hp : Paired (fun (kv : Key × V) (b : List Str) => BT H kv.2 b) kvs row) : ∀ z ∈ zs, ∃ v, valV kvs (.inr z) = some v ∧ BT H v (lk zs row z) := by
  induction hp generalizing zs with
  | nil =>
    intro z hz
    cases zs with
    | nil => cases hz
    | cons y zs => cases hk
  | @cons kv b kvs row r t ih =>
    intro z hz
    cases zs with
    | nil => cases hz
    | cons y zs =>
      rw [List.map_cons, List.map_cons] at hk
      injection hk with h1 h2
      by_cases e : y = z
      · subst e
        refine ⟨kv.2, valV_pos h1, ?_⟩
        show BT H kv.2 (if y = y then b else _)
        rw [if_pos rfl]
        exact r
      · obtain ⟨v, q1, q2⟩ := ih h2 z ((List.mem_cons.mp hz).resolve_left fun q => e q.symm)
        refine ⟨v, ?_, ?_⟩
        · rw [valV_neg (by rw [h1]; intro q; injection q with q; exact e q)]
          exact q1
        · show BT H v (if y = z then b else _)
          rw [if_neg e]
          exact q2
theorem merge_app (kvs : List (Key × V)) (p : Key × V) : ∀ acc : List (Key × V), mergeK acc (kvs ++ [p]) = putK (mergeK acc kvs) p.1 p.2 := by
  induction kvs with
  | nil => intro acc; rfl
  | cons q kvs ih => intro acc; exact ih (putK acc q.1 q.2)
theorem merge_new : ∀ (more kvs : List (Key × V)), ((kvs ++ more).map (·.1)).Nodup → mergeK kvs more = kvs ++ more
  | [], kvs, _ => by rw [List.append_nil]; rfl
  | p :: more, kvs, h => by
    show mergeK (putK kvs p.1 p.2) more = _
    have h1 : p.1 ∉ kvs.map (·.1) := by
      rw [List.map_append, List.nodup_append] at h
      exact fun hm => h.2.2 _ hm _ List.mem_cons_self rfl
    rw [putK_new h1, merge_new more (kvs ++ [p]) (by rw [List.append_assoc]; exact h), List.append_assoc]
    rfl
theorem merge_nd {kvs : List (Key × V)} (h : (kvs.map (·.1)).Nodup) : mergeK [] kvs = kvs := merge_new kvs [] h
theorem inr_nodup {ns : List Str} (h : ns.Nodup) : (ns.map (Sum.inr : Str → Key)).Nodup := List.Pairwise.map Sum.inr (fun _ _ hne e => hne (Sum.inr.inj e)) h
def spAllW : Sp := fun vs H Q _ => ∃ (n : Addr) (ns : List Str), vs = [.ref n] ∧ H n = some (.tup (ns.map V.str)) ∧ ns.Nodup ∧ ns.length ≤ 3 ∧ ∀ (f : Addr) (xs : List V) (H' : Hp), H f = none → Same H H' → H' f = some (.lst xs) → Paired (WDt H' ns) xs (allW ns ns) → Q (.ref f) H'
def spRight (K : PySem.W.Frag) : Sp := fun vs H Q _ => ∃ (x : V) (s : Addr) (ns : List Str) (row : List (List Str)) (xs : List V) (as : List An), vs = [x, .ref s] ∧ WDt H ns x row ∧ ns.length ≤ 60 ∧ Oks ns ∧ (∀ z ∈ ns, (lk ns row z).Sublist ns) ∧ SqL K H s xs ∧ Paired (AnT H) xs as ∧ (∀ a ∈ as, AnR ns a) ∧ ∀ H', Same H H' → Q (.bl (rightB (lk ns row) as)) H'
section
variable {P : Program} {w : World} {K : PySem.W.Frag} {mg : Str → Option Value} {base : Heap}
theorem cal_law_all_wants (Z : All K mg) : Cal P w K mg base CX0 2 "_law_all_wants" ["_law_names"] spAllW := by
  obtain ⟨fd, F⟩ := Z.f_law_all_wants
  have C_law_parts : Cal P w K mg base CX0 1 "_law_parts" ["_law_some"] (spParts K) := cal_law_parts Z
  refine .of ⟨fd, F, ok0 F sc_law_all_wants (fun vs H Q E h => ?_) (fun cdv A outer s H vs Q E hr h => ?_)⟩ Z.g_law_all_wants (fun _ _ _ _ _ _ us hl => match us, hl with | [_], _ => rfl)
  · obtain ⟨n, ns, rfl, _⟩ := h
    rfl
  · obtain ⟨n, ns, rfl, hn, nd, l3, k⟩ := h
    refine ⟨_, (pss_cons (ps_set (i := 1) sc_law_all_wants.nd rfl (Or.inl rfl) (pe_lst (pa_cons pe_dnewK pa_nil)))
      (pss_cons (ps_for PassesOwn.never rfl (pi_seq (pv 0)) (pg_name (i := 2) sc_law_all_wants.nd rfl (Or.inr rfl)) (pss_cons (ps_set (i := 3) sc_law_all_wants.nd rfl (Or.inl rfl) (pe_lst pa_nil))
      (pss_cons (ps_for PassesOwn.never rfl (pi_seq (pe_callTy call_list_of (by rfl) Z.b_list PyProof.Rows.boot_list (pa_cons (pv 1) pa_nil))) (pg_name (i := 4) sc_law_all_wants.nd rfl (Or.inl rfl)) (pss_one (ps_for PassesOwn.never rfl (pi_seq (pe_cal C_law_parts (hr.mono (by decide)) (by rfl) pass0 (pa_cons (pe_lc (own := [("_law_other", 6)]) (by rfl) sc_law_all_wants.nd (pi_seq (pv 0)) (blkOk_by (own := [("_law_other", 6)]) (N := ["_law_names", "_law_rows", "_law_skill", "_law_longer", "_law_row", "_law_some", "_law_other"]) (sc := defScope s_law_all_wants) (by decide +kernel)) (fun _ _ _ _ _ => (pg_name (i := 6) sc_law_all_wants.nd rfl (Or.inl rfl))) (fun _ _ _ _ _ => (pts_one (pt_cmpR op_ne (pv 6) (pv 2) (nomark _)))) (fun _ _ _ _ _ => (pv 6))) pa_nil))) (pg_name (i := 5) sc_law_all_wants.nd rfl (Or.inl rfl)) (pss_one (ps_set (i := 3) sc_law_all_wants.nd rfl (Or.inl rfl) (pe_op op_cat (pv 3) (pe_lst (pa_cons (pe_callTy (call_dictP rfl) (by rfl) Z.b_dict PyProof.Rows.boot_dict (pa_cons (pe_op op_cat (LiI.pe_listItems rfl (pv 4) (by rfl) Z.b_list PyProof.Rows.boot_list) (pe_lst (pa_cons (pe_tup (pa_cons (pv 2) (pa_cons (pv 5) pa_nil))) pa_nil))) pa_nil)) pa_nil))))))))
      (pss_one (ps_set (i := 1) sc_law_all_wants.nd rfl (Or.inl rfl) (pe_callTy call_list_of (by rfl) Z.b_list PyProof.Rows.boot_list (pa_cons (pv 3) pa_nil)))))))
      (pss_one (ps_ret (pv 1))))), ?_⟩
    refine fun d0 nd0 => ⟨(by show 1 ≤ sizeLine; decide), fun r0 nr0 => ?_⟩
    have s2 : Same H (upd (upd H d0 (.dK [])) r0 (.lst [.ref d0])) := (Same.new nd0).trans (Same.new nr0)
    refine ⟨_, rfl, n, rfl, .inr ⟨⟨_, SqT.of (s2 _ _ hn)⟩, ?_⟩⟩
    refine for_tup (K := K) (a := n) (xs := ns.map V.str) (fun i σ G => ∃ (ro : Addr) (xr : List V) (u2 u3 u4 u5 : Option V), σ = [some (.ref n), some (.ref ro), u2, u3, u4, u5, none] ∧ H ro = none ∧ Same H G ∧ G ro = some (.lst xr) ∧ Paired (WDt G (ns.take i)) xr (allW ns (ns.take i)))
      ⟨r0, [.ref d0], none, none, none, none, rfl, (Same.new nd0).free nr0, s2, upd_same, .cons ⟨d0, [], rfl, Same.new nr0 _ _ upd_same, rfl, .nil⟩ .nil⟩ (fun i σ G _ ⟨_, _, _, _, _, _, _, _, s, _⟩ => SqT.of (s _ _ hn)) ?_ ?_
    · rintro i y σ G hi ⟨ro, xr, u2, u3, u4, u5, rfl, _, sg, hro, pr⟩
      obtain ⟨z, rfl, hz⟩ := strs_get hi
      have zin := List.mem_of_getElem? hz
      have ti := take_one hz
      obtain ⟨acc, eacc⟩ : ∃ acc, acc = allW ns (ns.take i) := ⟨_, rfl⟩
      rw [← eacc] at pr
      have il : i < ns.length := (List.getElem?_eq_some_iff.mp hz).1
      have lacc : acc.length ≤ 16 := by
        have q := allW_len l3 i (by omega)
        rw [← eacc] at q
        have : 4 ^ i ≤ 4 ^ 2 := Nat.pow_le_pow_right (by decide) (by omega)
        omega
      have lxr : xr.length = acc.length := Paired.length pr
      have nin : z ∉ ns.take i := fun q => by
        have nd2 : (ns.take i ++ [z]).Nodup := by
          rw [← ti]
          exact nd.sublist (List.take_sublist _ _)
        exact (List.nodup_append.mp nd2).2.2 z q z List.mem_cons_self rfl
      refine ⟨(by show 0 ≤ sizeLine; decide), fun lo nlo => ?_⟩
      -- over the rows, a copy of them
      refine ⟨_, rfl, ro, xr, rfl, .inl (SqL.of (Same.new nlo _ _ hro)), fun rc nrc => ⟨rc, rfl, .inl ⟨⟨_, SqL.of upd_same⟩, ?_⟩⟩⟩
      have s4 : Same G (upd (upd G lo (.lst [])) rc (.lst xr)) := (Same.new nlo).trans (Same.new nrc)
      have hrc : (upd (upd G lo (.lst [])) rc (.lst xr)) rc = some (.lst xr) := upd_same
      have hlo : (upd (upd G lo (.lst [])) rc (.lst xr)) lo = some (.lst []) := Same.new nrc _ _ upd_same
      refine for_list (K := K) (a := rc) (xs := xr) (fun j σ G2 => ∃ (lo : Addr) (xl : List V) (u4 u5 : Option V), σ = [some (.ref n), some (.ref ro), some (.str z), some (.ref lo), u4, u5, none] ∧ Same G G2 ∧ G2 rc = some (.lst xr) ∧ G2 lo = some (.lst xl) ∧ Paired (WDt G2 (ns.take (i + 1))) xl ((acc.take j).flatMap (rowsOf ns z)))
        ⟨lo, [], _, _, rfl, s4, hrc, hlo, .nil⟩ (fun j σ G2 _ ⟨_, _, _, _, _, _, h, _⟩ => SqL.of h) ?_ ?_
      · rintro j y2 σ G2 hj ⟨lo, xl, u4, u5, rfl, sj, hrc2, hlo2, pl⟩
        obtain ⟨row, hrow, wd⟩ := paired_at pr hj
        have hn2 := sj _ _ (sg _ _ hn)
        -- the parts of the others
        refine ⟨_, rfl, n, rfl, lc_seq (.inr (SqT.of hn2)) (fun m => ((ns.take m).filter fun x => !decide (x = z)).map V.str) rfl (fun D nD m y Hy hm pp => ?_) fun D G3 nD s3 at3 => ?_⟩
        · obtain ⟨x, rfl, hx⟩ := strs_get hm
          refine ⟨rfl, _, rfl, _, rfl, rfl, _, rfl, ?_⟩
          by_cases e : x = z
          · exact ifF (by rw [decide_eq_true (by rw [e])]; rfl) (pp.skip (filt_no V.str _ hx (by rw [decide_eq_true e]; rfl)))
          · refine ifT (by rw [decide_eq_false (by intro q; injection q with q; exact e q)]; rfl) ⟨_, rfl, pp.put nD (filt_one V.str _ hx (by rw [decide_eq_false e]; rfl)) (line_of (m := 60) ?_ (by decide))⟩
            rw [List.length_map]
            exact Nat.le_trans (List.length_filter_le _ _) (Nat.le_trans (List.length_take_le' _ _) (by omega))
        rw [List.length_map, List.take_length] at at3
        have at3 : G3 D = some (.lst ((othersB ns z).map V.str)) := at3
        have lot : (othersB ns z).length ≤ 12 := by
          have := (others_sub ns z).length_le
          omega
        refine ⟨D, othersB ns z, rfl, SqL.of at3, lot, fun f ys G4 ff s4' hf pf => ⟨f, rfl, .inl ⟨⟨_, SqL.of hf⟩, ?_⟩⟩⟩
        obtain ⟨ps_, eps⟩ : ∃ q, q = partsB (othersB ns z) := ⟨_, rfl⟩
        have rws : ∀ m, (rowsOf ns z row).take m = (ps_.take m).map fun b => row ++ [b] := fun m => by
          unfold rowsOf
          rw [← eps, List.map_take]
        rw [← eps] at pf
        have lys : ys.length = ps_.length := Paired.length pf
        have lps : ps_.length ≤ 4 := by
          have := rowsOf_len l3 zin row
          unfold rowsOf at this
          rw [List.length_map, ← eps] at this
          exact this
        have s24 := s3.trans s4'
        refine for_list (K := K) (a := f) (xs := ys) (fun m σ G5 => ∃ (lo : Addr) (xl : List V) (u5 : Option V), σ = [some (.ref n), some (.ref ro), some (.str z), some (.ref lo), some y2, u5, none] ∧ Same G G5 ∧ G5 rc = some (.lst xr) ∧ G5 f = some (.lst ys) ∧ Paired (BT G5) ys ps_ ∧ G5 lo = some (.lst xl) ∧ Paired (WDt G5 (ns.take (i + 1))) xl ((acc.take j).flatMap (rowsOf ns z) ++ (rowsOf ns z row).take m))
          ⟨lo, xl, _, rfl, sj.trans s24, s24 _ _ hrc2, hf, pf, s24 _ _ hlo2, by rw [List.take_zero, List.append_nil]; exact wdts_same pl s24⟩ (fun m σ G5 _ ⟨_, _, _, _, _, _, h, _⟩ => SqL.of h) ?_ ?_
        · rintro m y5 σ G5 hm ⟨lo, xl, u5, rfl, s5, hrc5, hf5, pf5, hlo5, pl5⟩
          obtain ⟨b, hb, q, rfl, hq⟩ := paired_at pf5 hm
          obtain ⟨dr, kvs, rfl, hdr, hkr, hvr⟩ := wd.same s5
          -- its items, and one more
          refine ⟨_, rfl, _, rfl, dr, kvs, rfl, hdr, fun G6 p6 ts s6 np6 _ _ hp6 pt6 => ?_⟩
          have s6 : Same G5 G6 := s6
          refine ⟨_, rfl, _, rfl, (by show 2 ≤ sizeLine; decide), fun t nt => ⟨(by show 1 ≤ sizeLine; decide), fun ol nol => ?_⟩⟩
          have hol : (upd (upd G6 t (.tup [.str z, .ref q])) ol (.lst [.ref t])) ol = some (.lst [.ref t]) := upd_same
          have s7 : Same G6 (upd (upd G6 t (.tup [.str z, .ref q])) ol (.lst [.ref t])) := (Same.new nt).trans (Same.new nol)
          have ht7 : (upd (upd G6 t (.tup [.str z, .ref q])) ol (.lst [.ref t])) t = some (.tup [.str z, .ref q]) := Same.new nol _ _ upd_same
          have lk3 : kvs.length ≤ 3 := by
            have := congrArg List.length hkr
            rw [List.length_map, List.length_map] at this
            have : (ns.take i).length ≤ ns.length := List.length_take_le' _ _
            omega
          have lts : ts.length = kvs.length := Paired.length pt6
          refine ⟨p6, ol, _, _, rfl, rfl, s7 _ _ hp6, hol, ?_, fun u nu => ?_⟩
          · rw [List.length_map, lts, sizeLine_eq]
            show kvs.length + 1 ≤ _
            omega
          have s8 := s7.trans (Same.new (o := .lst (ts.map V.ref ++ [.ref t])) nu)
          have hu : (upd (upd (upd G6 t (.tup [.str z, .ref q])) ol (.lst [.ref t])) u (.lst (ts.map V.ref ++ [.ref t]))) u = some (.lst ((ts ++ [t]).map V.ref)) := by
            rw [upd_same, List.map_append]
            rfl
          have ht8 := Same.new (o := .lst (ts.map V.ref ++ [.ref t])) nu _ _ ht7
          obtain ⟨G8, e8⟩ : ∃ G8, G8 = upd (upd (upd G6 t (.tup [.str z, .ref q])) ol (.lst [.ref t])) u (.lst (ts.map V.ref ++ [.ref t])) := ⟨_, rfl⟩
          rw [← e8] at s8 hu ht8 ⊢
          clear e8 nu s7 hol ht7 nol nt
          refine ⟨u, ts ++ [t], kvs ++ [((.inr z : Key), V.ref q)], rfl, SqL.of hu, pairedG_snoc (R := fun p (kv : Key × V) => SqT K G8 p [kV kv.1, kv.2]) (x := t) (w := (.inr z, .ref q)) (SqT.of ht8) (pairedG_mono (S := fun p (kv : Key × V) => SqT K G8 p [kV kv.1, kv.2]) (fun a kv h => SqT.of (s8 _ _ h)) pt6), fun dn ndn => ?_⟩
          have nk : (Sum.inr z : Key) ∉ kvs.map (·.1) := by
            rw [hkr]
            intro q
            obtain ⟨y, hy, e⟩ := List.mem_map.mp q
            cases e
            exact nin hy
          have ndk : ((kvs ++ [((.inr z : Key), V.ref q)]).map (·.1)).Nodup := by
            rw [List.map_append, hkr]
            have := inr_nodup (nd.sublist (List.take_sublist (i + 1) ns))
            rw [ti, List.map_append] at this
            exact this
          rw [merge_nd ndk]
          have s9 := (s6.trans s8).trans (Same.new (o := .dK (kvs ++ [(.inr z, .ref q)])) ndn)
          have hdn : (upd G8 dn (.dK (kvs ++ [(.inr z, .ref q)]))) dn = some (.dK (kvs ++ [(.inr z, .ref q)])) := upd_same
          obtain ⟨G9, e9⟩ : ∃ G9, G9 = upd G8 dn (.dK (kvs ++ [(.inr z, .ref q)])) := ⟨_, rfl⟩
          rw [← e9] at s9 hdn ⊢
          clear e9 ndn s8 hu ht8 hp6 pt6 np6 s6
          -- put behind
          refine ⟨(by show 1 ≤ sizeLine; decide), fun l1 nl1 => ⟨lo, l1, xl, _, rfl, rfl, Same.new nl1 _ _ (s9 _ _ hlo5), upd_same, ?_, fun u2 nu2 => ?_⟩⟩
          · have e1 := Paired.length pl5
            have e2 : ((acc.take j).flatMap (rowsOf ns z)).length ≤ (acc.take j).length * 4 := len_flat fun r _ => rowsOf_len l3 zin r
            have e3 : (acc.take j).length ≤ acc.length := List.length_take_le' _ _
            have e4 : ((rowsOf ns z row).take m).length ≤ (rowsOf ns z row).length := List.length_take_le' _ _
            have e5 := rowsOf_len l3 zin row
            rw [List.length_append] at e1
            rw [sizeLine_eq]
            show xl.length + 1 ≤ _
            omega
          have sU : Same G5 (upd (upd G9 l1 (.lst [.ref dn])) u2 (.lst (xl ++ [.ref dn]))) := (s9.trans (Same.new nl1)).trans (Same.new nu2)
          have sV : Same G9 (upd (upd G9 l1 (.lst [.ref dn])) u2 (.lst (xl ++ [.ref dn]))) := (Same.new nl1).trans (Same.new nu2)
          refine ⟨u2, xl ++ [.ref dn], _, rfl, s5.trans sU, sU _ _ hrc5, sU _ _ hf5, paired_mono (fun x w q => bt_mono _ _ _ _ (Tk.of sU) q) pf5, upd_same, ?_⟩
          rw [rws, map_one _ hb, ← rws, ← List.append_assoc]
          refine paired_snoc ?_ (wdts_same pl5 sU)
          refine ⟨dn, _, rfl, sV _ _ hdn, ?_, pairedG_snoc ⟨q, rfl, sU _ _ hq⟩ (pairedG_mono (fun kv b h => bt_mono _ _ _ _ (Tk.of sU) h) hvr)⟩
          rw [List.map_append, hkr, ti, List.map_append]
          rfl
        · rintro σ G5 ⟨lo, xl, u5, rfl, s5, hrc5, hf5, pf5, hlo5, pl5⟩
          have full : (rowsOf ns z row).take ys.length = rowsOf ns z row := List.take_of_length_le (by
            unfold rowsOf
            rw [List.length_map, ← eps, lys]
            exact Nat.le_refl _)
          rw [full] at pl5
          refine ⟨lo, xl, _, _, rfl, s5, hrc5, hlo5, ?_⟩
          rw [take_one hrow, List.flatMap_append, List.flatMap_singleton]
          exact pl5
      · rintro σ G2 ⟨lo, xl, u4, u5, rfl, sj, hrc2, hlo2, pl⟩
        rw [lxr, List.take_length] at pl
        refine ⟨_, rfl, lo, xl, rfl, .inl (SqL.of hlo2), fun rn nrn => ?_⟩
        refine ⟨rn, xl, _, _, _, _, rfl, (sg.trans sj).free nrn, (sg.trans sj).trans (Same.new nrn), upd_same, ?_⟩
        rw [ti, allW_snoc, ← eacc, ← ti]
        exact wdts_same pl (Same.new nrn)
    · rintro σ G ⟨ro, xr, u2, u3, u4, u5, rfl, fro, sg, hro, pr⟩
      rw [List.length_map, List.take_length] at pr
      exact ⟨_, rfl, k ro xr G fro sg hro pr⟩
theorem cal_law_right (Z : All K mg) : Cal P w K mg base CX0 1 "_law_right" ["_law_wants", "_law_seen"] (spRight K) := by
  obtain ⟨fd, F⟩ := Z.f_law_right
  refine .of ⟨fd, F, ok0 F sc_law_right (fun vs H Q E h => ?_) (fun cdv A outer s H vs Q E hr h => ?_)⟩ Z.g_law_right (fun _ _ _ _ _ _ us hl => match us, hl with | [_, _], _ => rfl)
  · obtain ⟨x, sa, ns, row, xs, as, rfl, _⟩ := h
    rfl
  · obtain ⟨x, sa, ns, row, xs, as, rfl, wd, l60, oks, sub, hs, ps, okA, k⟩ := h
    refine ⟨_, (pss_cons (ps_for PassesOwn.never rfl (pi_seq (pv 1)) (pg_tup rfl (pgs_cons (pg_name (i := 2) sc_law_right.nd rfl (Or.inr rfl)) (pgs_cons (pg_name (i := 3) sc_law_right.nd rfl (Or.inl rfl)) (pgs_cons (pg_name (i := 4) sc_law_right.nd rfl (Or.inl rfl)) pgs_nil)))) (pss_one (ps_if (pt_cmpR op_ne (pv 4) (pe_cmpR (op_eqE hr.units) (pe_lc (own := [("_law_name", 5)]) (by rfl) sc_law_right.nd (pi_seq (pe_dget (hu_of hr) (pv 0) (pv 3) (fun _ _ => rfl))) (blkOk_by (own := [("_law_name", 5)]) (N := ["_law_wants", "_law_seen", "_law_build", "_law_skill", "_law_lets", "_law_name"]) (sc := defScope s_law_right) (by decide +kernel)) (fun _ _ _ _ _ => (pg_name (i := 5) sc_law_right.nd rfl (Or.inl rfl))) (fun _ _ _ _ _ => (pts_one (pt_cmpR (show OpR _ (compareOp .NotIn) (rIn K true) from op_notIn_seq) (pv 5) (pv 2) rfl))) (fun _ _ _ _ _ => (pv 5))) (pe_lst pa_nil) (nomark _)) (nomark _)) (pss_one (ps_ret pe_bl)) pss_nil)))
      (pss_one (ps_ret pe_bl))), ?_⟩
    have lx : xs.length = as.length := Paired.length ps
    refine ⟨_, rfl, sa, rfl, .inl ⟨⟨_, hs⟩, ?_⟩⟩
    refine for_list (K := K) (a := sa) (xs := xs) (fun i σ G => ∃ (u2 u3 u4 : Option V), σ = [some x, some (.ref sa), u2, u3, u4, none] ∧ Same H G ∧ (as.take i).all (okAns (lk ns row)) = true)
      ⟨none, none, none, rfl, Same.refl _, rfl⟩ (fun i σ G _ ⟨_, _, _, _, s, _⟩ => s.seq hs) ?_ ?_
    · rintro i y σ G hi ⟨u2, u3, u4, rfl, sg, al⟩
      obtain ⟨a, ha, q, r, rfl, hq, hr'⟩ := paired_at ps hi
      have hq2 := sg _ _ hq
      have hr2 := sg _ _ hr'
      have okI := okA a (List.mem_of_getElem? ha)
      obtain ⟨d, kvs, rfl, hd, hk, hv⟩ := wd.same sg
      obtain ⟨v, q1, t, rfl, ht⟩ := valV_row hk hv a.skill okI.skill
      have lb : (lk ns row a.skill).length ≤ 60 := Nat.le_trans (sub _ okI.skill).length_le l60
      refine ⟨q, _, rfl, SqT.of hq2, rfl, _, _, rfl, _, _, rfl, _, _, rfl, rfl, ?_⟩
      refine ⟨_, rfl, _, rfl, _, rfl, d, .ref t, rfl, ?_, t, rfl, lc_seq (.inr (SqT.of ht)) (fun j => (((lk ns row a.skill).take j).filter fun y => !decide (y ∈ a.build)).map V.str) rfl (fun D nD j y Hy hj pp => ?_) fun D G3 nD s3 at3 => ?_⟩
      · rw [← q1]
        exact DGet.k (k := .inr a.skill) hd
      · obtain ⟨y, rfl, hy⟩ := strs_get hj
        refine ⟨rfl, _, rfl, _, rfl, r, _, rfl, .inr (SqT.of (pp.same _ _ hr2)), rfl, flat_strsV _, _, rfl, ?_⟩
        show if (!inV (.str y) (a.build.map V.str)) = true then _ else _
        rw [inV_strs]
        refine ifB (fun e => ?_) (fun e => ?_)
        · refine ⟨_, rfl, pp.put nD (filt_one V.str _ hy e) (line_of (m := 60) ?_ (by decide))⟩
          rw [List.length_map]
          exact Nat.le_trans (List.length_filter_le _ _) (Nat.le_trans (List.length_take_le' _ _) lb)
        · exact pp.skip (filt_no V.str _ hy e)
      · rw [List.length_map, List.take_length] at at3
        refine ⟨(by show 0 ≤ sizeLine; decide), fun e0 ne0 => ⟨D, _, e0, rfl, rfl, SqL.of (Same.new ne0 _ _ at3), SqL.of upd_same, fun x hx => ?_, ?_⟩⟩
        · obtain ⟨y, hy, rfl⟩ := List.mem_map.mp hx
          exact ⟨.str y, .str y, sm_str (oks y ((sub _ okI.skill).subset (List.mem_filter.mp hy).1))⟩
        · have sz := s3.trans (Same.new (o := .lst []) ne0)
          refine ⟨rfl, _, rfl, ?_⟩
          have eo : okAns (lk ns row) a = decide (V.bl a.lets = V.bl ((((lk ns row a.skill).filter fun y => !decide (y ∈ a.build)).map V.str).isEmpty)) := by
            unfold okAns
            rw [decide_eq_decide, List.isEmpty_map]
            exact ⟨fun h => by rw [h], fun h => by injection h⟩
          have st : (as.take (i + 1)).all (okAns (lk ns row)) = okAns (lk ns row) a := by
            rw [take_one ha, List.all_append, al, Bool.true_and]
            simp
          show if (!decide (V.bl a.lets = V.bl ((((lk ns row a.skill).filter fun y => !decide (y ∈ a.build)).map V.str).isEmpty))) = true then _ else _
          rw [← eo]
          refine ifB (fun e => ?_) (fun e => ?_)
          · have bad : rightB (lk ns row) as = false := by
              rw [Bool.not_eq_true'] at e
              unfold rightB
              rw [List.all_eq_false]
              exact ⟨a, List.mem_of_getElem? ha, by rw [e]; decide⟩
            rw [bad] at k
            exact k _ (sg.trans sz)
          · rw [Bool.not_eq_false'] at e
            exact ⟨_, _, _, rfl, sg.trans sz, by rw [st]; exact e⟩
    · rintro σ G ⟨u2, u3, u4, rfl, sg, al⟩
      rw [lx, List.take_length] at al
      have good : rightB (lk ns row) as = true := al
      rw [good] at k
      exact k _ sg
end
end Rt
end
section
set_option Elab.async false
set_option linter.all false
set_option maxRecDepth 100000
set_option maxHeartbeats 4000000
/-! t[::-1] of a pair -/
namespace Rt
open PySem PySem.Spec PyProof.Rows L2 HT
section
variable {prog : Program} {w : World} {A : Around} {E : Value → Shared → Prop} {s : Shared}
theorem applied_rev {sl : Addr} {vs : Value} {Q : Int × Int × Nat → Shared → Prop} (hs : s.heap.IsSliceOf sl .none .none vs) (ps : IsPart vs (some (-1)))
    (h : Q (1, -1, 2) s) : wpAny (model prog w) A (Builtin.Slice.sliceApplied (.ref sl) (pure (2 : Int))) Q E s := by
  obtain ⟨os, hos, hcs, hds⟩ := id hs
  unfold Builtin.Slice.sliceApplied Builtin.Slice.sliceFields
  refine wpAny_bind (wpAny_bind (wpAny_field hos hds (x := .none) rfl (wpAny_bind (wpAny_field hos hds (x := .none) rfl (wpAny_bind (wpAny_field hos hds (x := vs) rfl (wpAny_pure ?_)))))))
  refine wpAny_bind (slicePart_ ps ?_)
  show wpAny _ _ (if ((-1 : Int) == 0) = true then _ else _) _ _ s
  rw [if_neg (by decide)]
  refine wpAny_bind (slicePart_none (wpAny_bind (slicePart_none (wpAny_bind (wpAny_pure ?_)))))
  exact wpAny_pure h
theorem getItem_pair_rev {t sl : Addr} {u1 u2 : Value} {vs : Value} {Q : Value → Shared → Prop} (ht : IsTup s.heap t #[u1, u2]) (hs : s.heap.IsSliceOf sl .none .none vs) (ps : IsPart vs (some (-1)))
    (h : Q (.ref s.heap.objs.size) { s with heap := s.heap.push { cls := .type "tuple", data := .seq #[u2, u1] } }) : wpAny (model prog w) A (getItem (.ref t) (.ref sl)) Q E s := by
  have htake : sizeOk (.seq #[u2, u1]) := by
    show 2 ≤ sizeLine
    decide
  obtain ⟨os, hos, hcs, hds⟩ := id hs
  have hTs : s.TypeIs (.ref sl) "slice" := ⟨os, hos, hcs⟩
  unfold getItem
  try with_reducible refine wpAny_holding ?_
  first | refine wpAny_bind (wpAny_pure ?_) | skip
  refine wpAny_bind (wpAny_sequenceKey ht.typeIs (by decide) ?_)
  refine wpAny_bind (wpAny_callSpecial?_slot (name := Str.ofString "__getitem__") ht.typeIs PyProof.Rows.slot_tuple_getitem
    (wpAny_call_entry PyProof.Rows.slot_tuple_getitem ht.typeIs entry_tuple_getitem ?_ (args_tuple_getitem _ _)))
  show wpAny _ _ (Builtin.Tuple.tupleItemsOf (.ref t) >>= _) _ _ s
  refine wpAny_bind (tupleItemsOf_ ht ?_)
  refine wpAny_bind (wpAny_typeOf hTs ?_)
  rw [if_pos (by decide)]
  refine wpAny_bind (applied_rev hs ps ?_)
  show wpAny _ _ (if (((1 : Int) == 0) && ((-1 : Int) == 1) && (2 == 2)) = true then _ else _) _ _ s
  rw [if_neg (by decide)]
  first
    | exact wpAny_bind (m := Builtin.Tuple.tupleExact _) (wpAny_newObj_type (wpAny_pure ⟨_, rfl, wpAny_pure h⟩) htake)
    | exact wpAny_bind (m := Builtin.Tuple.tupleExact _) (wpAny_newObj_type (wpAny_bind (wpAny_pure (wpAny_pure ⟨_, rfl, wpAny_pure h⟩))) htake)
    | exact wpAny_bind (wpAny_bind (m := Builtin.Tuple.tupleExact _) (wpAny_newObj_type (wpAny_pure (wpAny_pure ⟨_, rfl, wpAny_pure h⟩)) htake))
    | exact wpAny_bind (wpAny_bind (m := Builtin.Tuple.tupleExact _) (wpAny_newObj_type (wpAny_pure ⟨_, rfl, wpAny_pure h⟩) htake))
end
section
variable {X : Cx}
def tRevT (K : PySem.W.Frag) (te : TE) : TE := fun σ H Q => te σ H fun x H1 => ∃ a x1 x2, x = .ref a ∧ SqT K H1 a [x1, x2] ∧ ∀ p, H1 p = none → Q (.ref p) (upd H1 p (.tup [x2, x1]))
theorem pe_revT {e : Expr} {te : TE} {k : Nat} {p1 p2 p3 pos : Pos} (he : PE X e te) : PE X (.Subscript e (.Slice none none (some (.UnaryOp .USub (.Constant (.int 1) k p1) p2)) p3) pos) (tRevT X.K te) := by
  refine ⟨fun pins s σ H Q I h => ?_⟩
  refine Subscript_ (thn (he.run pins s σ H _ I h) fun v s1 ⟨x, H1, I1, r1, q1⟩ => ?_)
  obtain ⟨a, x1, x2, ex, hx, q⟩ := q1
  subst ex
  cases r1
  have hst : PO X (some (.UnaryOp .USub (.Constant (.int 1) k p1) p2)) (tPart (tUn (rU fun i => .int (-i)) (tC (.int 1)))) := po_some (pe_un un_neg pe_int)
  refine wpAny_Slice ?_
  rw [evalPart_none]
  refine wpAny_pure (wpAny_pure ?_)
  refine thn (hst.run pins s1 σ H1 (fun o H4 => o = some (-1) ∧ H4 = H1) I1 ⟨1, rfl, -1, rfl, rfl, rfl⟩) fun vs s4 ⟨o, H4, I4, ps, eo, e4⟩ => ?_
  subst eo e4
  have I5 : Inv X pins σ H4 { s4 with heap := s4.heap.push { cls := .type "slice", data := .fields #[.none, .none, vs] } } := I4.kept (t' := s4.toks) fun b ob q => Heap.get?_push_of_some _ q
  obtain ⟨its, r, ht, hz⟩ := I5.tuple hx
  obtain ⟨u1, u2, rfl, r1', r2'⟩ : ∃ u1 u2, its = [u1, u2] ∧ RelV x1 u1 ∧ RelV x2 u2 := by
    cases r with
    | cons p q =>
      cases q with
      | cons p' q' =>
        cases q'
        exact ⟨_, _, rfl, p, p'⟩
  show wpAny (model X.prog X.w) X.A (subscriptTail e (.Slice none none (some (.UnaryOp .USub (.Constant (.int 1) k p1) p2)) p3) (.ref a) (.ref s4.heap.objs.size)) (EP X pins σ Q) X.xe { s4 with heap := s4.heap.push { cls := .type "slice", data := .fields #[.none, .none, vs] } }
  refine tail_any (ops := [.ref a, .ref s4.heap.objs.size]) ht.typeIs (PyProof.Rows.slot_tuple_getitem.lookup) ?_ (by with_unfolding_all rfl)
  refine getItem_pair_rev ht (Heap.IsSliceOf.new _ .none .none vs) ps ?_
  refine ⟨.ref _, _, I5.laid (t' := s4.toks) (o := .tup [x2, x1]) (fun b ob q => Heap.get?_push_of_some _ q) (Nat.le_refl _) ?_, rfl, q _ (I5.hok.fresh (Nat.le_refl _))⟩
  exact ⟨(by show 2 ≤ sizeLine; decide), _, (.cons r2' (.cons r1' .nil)), IsTup.new _ _⟩
end
end Rt
end
section
set_option Elab.async false
set_option linter.all false
set_option maxRecDepth 100000
set_option maxHeartbeats 8000000
/-! the law's bent wants -/
namespace Rt
open PySem PySem.Spec PyProof.Rows L2
/-- all but one object stands -/
def Kb (fo : Addr) (H H' : Hp) : Prop := ∀ b o, b ≠ fo → H b = some o → H' b = some o
theorem Kb.of {fo : Addr} {H H' : Hp} (s : Same H H') : Kb fo H H' := fun b o _ h => s b o h
theorem Kb.trans {fo : Addr} {H H1 H2 : Hp} (a : Kb fo H H1) (b : Kb fo H1 H2) : Kb fo H H2 := fun c o n h => b c o n (a c o n h)
theorem Kb.put {fo : Addr} {H : Hp} {o : HO} : Kb fo H (upd H fo o) := fun b u n h => by
  rw [upd_ne n]
  exact h
theorem Kb.tk {fo : Addr} {H H' : Hp} {xf : List V} (k : Kb fo H H') (h : H fo = some (.lst xf)) : Tk H H' := fun b xs hb => k b _ (ne_of hb h (by intro z; cases z)) hb
/-- wants that are bent, whatever becomes of the list that they are put into -/
def BW (P : Program) (w : World) (K : PySem.W.Frag) (ns : List Str) (fo : Addr) (H : Hp) (x : V) : Prop := ∀ H', Kb fo H H' → ∃ m, WtV P w K H' ns x false m
theorem BW.go {P : Program} {w : World} {K : PySem.W.Frag} {ns : List Str} {fo : Addr} {H H' : Hp} {x : V} (h : BW P w K ns fo H x) (k : Kb fo H H') : BW P w K ns fo H' x := fun G g => h G (k.trans g)
theorem awa_bad {ns : List Str} {m : Str → Option (List V)} {z : Str} (hz : z ∈ ns) (h : (ordO ns (m z) && !hasO z (m z)) = false) : awa ns m = false := by
  unfold awa
  rw [List.all_eq_false]
  exact ⟨z, hz, by rw [h]; decide⟩
theorem keys_put {kvs : List (Key × V)} {k : Key} {v : V} (h : k ∈ kvs.map (·.1)) : (putK kvs k v).map (·.1) = kvs.map (·.1) := by
  unfold putK
  obtain ⟨p, hp, e⟩ := List.mem_map.mp h
  rw [if_pos (List.any_eq_true.mpr ⟨p, hp, decide_eq_true e⟩), List.map_map]
  refine List.map_congr_left fun q _ => ?_
  show (if q.1 = k then (q.1, v) else q).1 = q.1
  split <;> rfl
theorem bw_put {P : Program} {w : World} {K : PySem.W.Frag} {ns : List Str} {fo dn : Addr} {H : Hp} {xf : List V} {kvs : List (Key × V)} {row : List (List Str)} {z : Str} {v : V} {o : Option (List V)}
    (hfo : H fo = some (.lst xf)) (hdn : H dn = some (.dK (putK kvs (.inr z) v))) (hk : kvs.map (·.1) = ns.map (Sum.inr : Str → Key)) (hv : Paired (fun (kv : Key × V) (b : List Str) => BT H kv.2 b) kvs row) (l : ∀ y ∈ ns, (lk ns row y).length ≤ 60) (hz : z ∈ ns)
    (ov : ∀ H', Kb fo H H' → Ov K H' v o) (bad : (ordO ns o && !hasO z o) = false) : BW P w K ns fo H (.ref dn) := fun H' kb => by
  have ndf : dn ≠ fo := ne_of hdn hfo (by intro z; cases z)
  have tk := kb.tk hfo
  have inK : (Sum.inr z : Key) ∈ kvs.map (·.1) := by
    rw [hk]
    exact List.mem_map_of_mem hz
  have dw : DW K H' dn ns fun y => if y = z then o else some ((lk ns row y).map V.str) := by
    refine ⟨_, kb _ _ ndf hdn, by rw [keys_put inK, hk], fun y hy => ?_⟩
    rw [valV_put]
    by_cases e : y = z
    · subst e
      exact ⟨v, by rw [if_pos rfl], by rw [if_pos rfl]; exact ov H' kb⟩
    · obtain ⟨u, h1, t, rfl, ht⟩ := valV_row hk hv y hy
      refine ⟨.ref t, by rw [if_neg (by intro q; injection q with q; exact e q)]; exact h1, ?_⟩
      rw [if_neg e]
      exact ov_tup (tk _ _ ht) (l y hy)
  have e : awa ns (fun y => if y = z then o else some ((lk ns row y).map V.str)) = false := awa_bad hz (by rw [if_pos rfl]; exact bad)
  have q := WtV.dw (P := P) (w := w) dw
  rw [e] at q
  exact ⟨_, q⟩
theorem bw_len {P : Program} {w : World} {K : PySem.W.Frag} {ns : List Str} {fo dn : Addr} {H : Hp} {xf : List V} {kvs : List (Key × V)} (hfo : H fo = some (.lst xf)) (hdn : H dn = some (.dK kvs)) (ne : kvs.length ≠ ns.length) : BW P w K ns fo H (.ref dn) := fun H' kb =>
  ⟨fun _ => none, .len _ (kb _ _ (ne_of hdn hfo (by intro z; cases z)) hdn) ne⟩
def rDictP (K : PySem.W.Frag) : List V → Hp → VK → Prop := fun xs H Q => ∃ (a : Addr) (ps : List Addr) (kvs : List (Key × V)), xs = [.ref a] ∧ SqL K H a (ps.map V.ref) ∧ Paired (fun p kv => SqT K H p [kV kv.1, kv.2]) ps kvs ∧ ∀ p, H p = none → Q (.ref p) (upd H p (.dK (mergeK [] kvs)))
/-- list(d.items()) + [(a, b)] -/
theorem items_and {σ : L2.St} {H : Hp} {Q : VK} {d : Addr} {kvs : List (Key × V)} {i : Nat} {tt : TA} (AB : V → V → Hp → Prop) (h2 : σ[i]? = some (some (.ref d))) (hd : H d = some (.dK kvs)) (l3 : kvs.length ≤ 3)
    (mono : ∀ a b G G', Same G G' → AB a b G → AB a b G')
    (two : ∀ (G : Hp) (Q2 : List V → Hp → Prop), Same H G → (∀ a b G2, Same G G2 → AB a b G2 → Q2 [a, b] G2) → tt σ G Q2)
    (fin : ∀ (u : Addr) (ts : List Addr) (t : Addr) (a b : V) (G : Hp), Same H G → G u = some (.lst ((ts ++ [t]).map V.ref)) → Paired (fun t (q : Key × V) => G t = some (.tup [kV q.1, q.2])) ts kvs → G t = some (.tup [a, b]) → AB a b G → Q (.ref u) G) :
    tOp rCat (LiI.tListItems (tVar i)) (tLst (tCons (tTup tt) tNil)) σ H Q := by
  refine ⟨_, h2, d, kvs, rfl, hd, fun G6 p6 ts s6 np6 _ _ hp6 pt6 => ?_⟩
  have s6 : Same H G6 := s6
  refine two G6 _ s6 fun a b G7 s7 ab => ?_
  refine ⟨(by show 2 ≤ sizeLine; decide), fun t nt => ⟨(by show 1 ≤ sizeLine; decide), fun ol nol => ?_⟩⟩
  have s8 : Same G7 (upd (upd G7 t (.tup [a, b])) ol (.lst [.ref t])) := (Same.new nt).trans (Same.new nol)
  have lts : ts.length = kvs.length := Paired.length pt6
  refine ⟨p6, ol, _, _, rfl, rfl, s8 _ _ (s7 _ _ hp6), upd_same, ?_, fun u nu => ?_⟩
  · rw [List.length_map, lts, sizeLine_eq]
    show kvs.length + 1 ≤ _
    omega
  have s9 := s8.trans (Same.new (o := .lst (ts.map V.ref ++ [.ref t])) nu)
  refine fin u ts t a b _ ((s6.trans s7).trans s9) ?_ (pairedG_mono (fun a kv h => s9 _ _ (s7 _ _ h)) pt6) (Same.new nu _ _ (Same.new nol _ _ upd_same)) (mono _ _ _ _ s9 ab)
  rw [upd_same, List.map_append]
  rfl
/-- dict(list(d.items()) + [(k, b)]) -/
theorem dict_and {K : PySem.W.Frag} {σ : L2.St} {H : Hp} {Q : VK} {d : Addr} {kvs : List (Key × V)} {i : Nat} {tt : TA} (k : Key) (AB : V → Hp → Prop) (h2 : σ[i]? = some (some (.ref d))) (hd : H d = some (.dK kvs)) (l3 : kvs.length ≤ 3)
    (mono : ∀ b G G', Same G G' → AB b G → AB b G')
    (two : ∀ (G : Hp) (Q2 : List V → Hp → Prop), Same H G → (∀ b G2, Same G G2 → AB b G2 → Q2 [kV k, b] G2) → tt σ G Q2)
    (fin : ∀ (dn : Addr) (b : V) (G : Hp), Same H G → G dn = some (.dK (mergeK [] (kvs ++ [(k, b)]))) → AB b G → Q (.ref dn) G) :
    tCB (rDictP K) (tCons (tOp rCat (LiI.tListItems (tVar i)) (tLst (tCons (tTup tt) tNil))) tNil) σ H Q := by
  refine items_and (fun a b G => a = kV k ∧ AB b G) h2 hd l3 (fun a b G G' s h => ⟨h.1, mono _ _ _ s h.2⟩) (fun G Q2 s kk => two G Q2 s fun b G2 s2 ab => kk _ _ _ s2 ⟨rfl, ab⟩) fun u ts t a b G s hu pt ht ab => ?_
  obtain ⟨rfl, ab⟩ := ab
  refine ⟨u, ts ++ [t], kvs ++ [(k, b)], rfl, SqL.of hu, pairedG_snoc (R := fun p (kv : Key × V) => SqT K G p [kV kv.1, kv.2]) (x := t) (w := (k, b)) (SqT.of ht) (pairedG_mono (S := fun p (kv : Key × V) => SqT K G p [kV kv.1, kv.2]) (fun a kv h => SqT.of h) pt), fun dn ndn => ?_⟩
  exact fin dn b _ (s.trans (Same.new ndn)) upd_same (mono _ _ _ (Same.new ndn) ab)
def spBent (P : Program) (w : World) (K : PySem.W.Frag) : Sp := fun vs H Q _ => ∃ (p n : Addr) (x : V) (ns : List Str) (row : List (List Str)), vs = [.ref p, .ref n, x] ∧ PoolAt H p ∧ H n = some (.tup (ns.map V.str)) ∧ NmT ns ∧ ns.length ≤ 3 ∧ WDt H ns x row ∧ (∀ z ∈ ns, (lk ns row z).Sublist (othersB ns z)) ∧
  ∀ (f : Addr) (xs : List V) (H' : Hp), H f = none → Aft p H H' → H' f = some (.lst xs) → (∀ x ∈ xs, ∃ m, WtV P w K H' ns x false m) → Q (.ref f) H'
theorem others_len {z : Str} : ∀ {ns : List Str}, ns.Nodup → z ∈ ns → (othersB ns z).length + 1 = ns.length
  | [], _, h => nomatch h
  | n :: ns, nd, h => by
    have nd' := List.nodup_cons.mp nd
    by_cases e : n = z
    · subst e
      have q : othersB (n :: ns) n = ns := by
        unfold othersB
        rw [List.filter_cons_of_neg (by rw [decide_eq_true rfl]; decide)]
        exact List.filter_eq_self.mpr fun y hy => by
          have ne : ¬ y = n := fun e => nd'.1 (e ▸ hy)
          rw [decide_eq_false ne]
          rfl
      rw [q]
      rfl
    · have ih := others_len nd'.2 ((List.mem_cons.mp h).resolve_left fun q => e q.symm)
      have q : othersB (n :: ns) z = n :: othersB ns z := by
        unfold othersB
        rw [List.filter_cons_of_pos (by rw [decide_eq_false e]; rfl)]
      rw [q, List.length_cons, List.length_cons, ih]
theorem rev_bad {ns : List Str} {z y1 y2 : Str} (nd : ns.Nodup) (e : othersB ns z = [y1, y2]) : ordO ns (some [.str y2, .str y1]) = false := by
  have ndo : [y1, y2].Nodup := by
    rw [← e]
    exact nd.sublist List.filter_sublist
  have ne : y1 ≠ y2 := fun q => by
    rw [q] at ndo
    exact (List.nodup_cons.mp ndo).1 List.mem_cons_self
  show (unlike ns [V.str y2, V.str y1] && decide (strsOf [V.str y2, V.str y1] = ns.filter fun y => decide (y ∈ strsOf [V.str y2, V.str y1]))) = false
  have s : strsOf [V.str y2, V.str y1] = [y2, y1] := rfl
  have f : (ns.filter fun y => decide (y ∈ [y2, y1])) = [y1, y2] := by
    rw [← e]
    refine List.filter_congr fun y hy => ?_
    have m : y ∈ [y2, y1] ↔ y ∈ othersB ns z := by
      rw [e]
      simp only [List.mem_cons, List.not_mem_nil, or_false]
      exact Or.comm
    rw [Bool.eq_iff_iff, decide_eq_true_iff, m, mem_others, Bool.not_eq_true', decide_eq_false_iff_not]
    exact ⟨fun h => h.2, fun h => ⟨hy, h⟩⟩
  rw [s, f, decide_eq_false (fun q => by injection q with q _; exact ne q.symm), Bool.and_false]
theorem twice_bad {ns : List Str} {y : Str} : ordO ns (some [.str y, .str y]) = false := by
  show (unlike ns [V.str y, V.str y] && _) = false
  have : unlike ns [V.str y, V.str y] = false := by
    unfold unlike
    have : decide (([V.str y, V.str y].filterMap strOf).Nodup) = false := decide_eq_false (fun q => (List.nodup_cons.mp (show [y, y].Nodup from q)).1 List.mem_cons_self)
    rw [this, Bool.and_false, Bool.and_false]
  rw [this, Bool.false_and]
def keyO : Key → Option Str
  | .inl _ => none
  | .inr s => some s
/-- a pair as a tuple -/
def KvT (H : Hp) (x : V) (kv : Key × V) : Prop := ∃ t, x = .ref t ∧ H t = some (.tup [kV kv.1, kv.2])
theorem kvt_mono : TkMono KvT := fun H H' x kv k ⟨t, e, h⟩ => ⟨t, e, k _ _ h⟩
theorem kvts {K : PySem.W.Frag} {H : Hp} : ∀ {ys : List V} {l : List (Key × V)}, Paired (KvT H) ys l → ∃ ps : List Addr, ys = ps.map V.ref ∧ Paired (fun p (kv : Key × V) => SqT K H p [kV kv.1, kv.2]) ps l
  | _, _, .nil => ⟨[], rfl, .nil⟩
  | _, _, .cons r t => by
    obtain ⟨q, rfl, hq⟩ := r
    obtain ⟨ps, e, h⟩ := kvts (K := K) t
    exact ⟨q :: ps, by rw [e]; rfl, .cons (SqT.of hq) h⟩
theorem okeys {K : PySem.W.Frag} {H : Hp} {ts : List Addr} {kvs : List (Key × V)} {ns : List Str} (e : kvs.map (·.1) = ns.map (Sum.inr : Str → Key)) (hp : Paired (fun t (q : Key × V) => H t = some (.tup [kV q.1, q.2])) ts kvs) :
    Paired (fun p (kv : Option Str × V) => SqT K H p [oK kv.1, kv.2]) ts (kvs.map fun kv => (keyO kv.1, kv.2)) ∧ (kvs.map fun kv => (keyO kv.1, kv.2)).map (·.1) = ns.map some := by
  induction hp generalizing ns with
  | nil =>
    cases ns with
    | nil => exact ⟨.nil, rfl⟩
    | cons n ns => cases e
  | @cons t kv ts kvs r _ ih =>
    cases ns with
    | nil => cases e
    | cons n ns =>
      rw [List.map_cons, List.map_cons] at e
      injection e with e1 e2
      obtain ⟨h1, h2⟩ := ih e2
      refine ⟨.cons ?_ h1, ?_⟩
      · show SqT K H _ [oK (keyO kv.1), kv.2]
        rw [e1] at r ⊢
        exact SqT.of r
      · rw [List.map_cons, List.map_cons, h2]
        show keyO kv.1 :: _ = _
        rw [e1]
        rfl
theorem nobody_no : ((T1 ++ (T2 ++ T3)).all fun z => !decide (z = "nobody")) = true := by decide +kernel
theorem NmT.nobody {ns : List Str} (h : NmT ns) : ("nobody" : Str) ∉ ns := fun q => by
  obtain ⟨N, m, hN, _, _, rfl⟩ := h
  have q1 := (List.take_sublist _ _).subset q
  have q2 : ("nobody" : Str) ∈ T1 ++ (T2 ++ T3) := by
    rcases hN with rfl | rfl | rfl
    · exact List.mem_append_left _ q1
    · exact List.mem_append_right _ (List.mem_append_left _ q1)
    · exact List.mem_append_right _ (List.mem_append_right _ q1)
  have := List.all_eq_true.mp nobody_no _ q2
  rw [decide_eq_true rfl] at this
  cases this
section
variable {P : Program} {w : World} {K : PySem.W.Frag} {mg : Str → Option Value} {base : Heap}
theorem cal_law_bent (Z : All K mg) : Cal P w K mg base CX0 3 "_law_bent" ["_law_pool_here", "_law_names", "_law_wants"] (spBent P w K) := by
  obtain ⟨fd, F⟩ := Z.f_law_bent
  have C_law_one : Cal P w K mg base CX0 2 "_law_one" ["_law_pool_here", "_law_things"] (spLone K) := cal_law_one Z
  refine .of ⟨fd, F, ok0 F sc_law_bent (fun vs H Q E h => ?_) (fun cdv A outer s H vs Q E hr h => ?_)⟩ Z.g_law_bent (fun _ _ _ _ _ _ us hl => match us, hl with | [_, _, _], _ => rfl)
  · obtain ⟨p, n, x, ns, row, rfl, _⟩ := h
    rfl
  · obtain ⟨p, n, x, ns, row, rfl, hp, hn, nt, l3, wd, sub, k⟩ := h
    refine ⟨_, (pss_cons (ps_set (i := 3) sc_law_bent.nd rfl (Or.inr rfl) (pe_cal C_law_one (hr.mono (by decide)) (by rfl) pass0 (pa_cons (pv 0) (pa_cons (pv 1) pa_nil))))
      (pss_cons (ps_set (i := 4) sc_law_bent.nd rfl (Or.inl rfl) (pe_lst (pa_cons pe_non (pa_cons pe_int (pa_cons (pe_lst pa_nil) (pa_cons pe_str (pa_cons (LiI.pe_listItems rfl (pv 2) (by rfl) Z.b_list PyProof.Rows.boot_list) pa_nil)))))))
      (pss_cons (ps_for PassesOwn.never rfl (pi_seq (pe_lst (pa_cons (pe_callTy call_list_of (by rfl) Z.b_list PyProof.Rows.boot_list (pa_cons (pe_dget (hu_of hr) (pv 2) (pv 3) (fun _ _ => rfl)) pa_nil)) (pa_cons (pe_tup (pa_cons (pv 3) pa_nil)) (pa_cons (pe_tup (pa_cons pe_str pa_nil)) (pa_cons pe_non (pa_cons (pe_op op_catA (pe_dget (hu_of hr) (pv 2) (pv 3) (fun _ _ => rfl)) (pe_tup (pa_cons pe_non pa_nil))) (pa_cons (pe_op op_catA (pe_dget (hu_of hr) (pv 2) (pv 3) (fun _ _ => rfl)) (pe_tup (pa_cons (pv 3) pa_nil))) (pa_cons pe_str pa_nil))))))))) (pg_name (i := 5) sc_law_bent.nd rfl (Or.inl rfl)) (pss_one (ps_expr (pe_bm PySem.F.plainAttrs_list PySem.F.slot_list_append PySem.F.type_list_append mt_append (pv 4) (pa_cons (pe_callTy (show CallR _ _ (rDictP K) from call_dictP rfl) (by rfl) Z.b_dict PyProof.Rows.boot_dict (pa_cons (pe_op op_cat (LiI.pe_listItems rfl (pv 2) (by rfl) Z.b_list PyProof.Rows.boot_list) (pe_lst (pa_cons (pe_tup (pa_cons (pv 3) (pa_cons (pv 5) pa_nil))) pa_nil))) pa_nil)) pa_nil)))))
      (pss_cons (ps_if (pt_cmpR op_gt (pe_callB call_len (by rfl) Z.b_len PySem.boot_len (pa_cons (pv 1) pa_nil)) pe_int (nomark _)) (pss_cons (ps_set (i := 6) sc_law_bent.nd rfl (Or.inl rfl) (pe_callTy call_tuple_of (by rfl) Z.b_tuple PyProof.Rows.boot_tuple (pa_cons (pe_lc (own := [("_law_name", 7)]) (by rfl) sc_law_bent.nd (pi_seq (pv 1)) (blkOk_by (own := [("_law_name", 7)]) (N := ["_law_pool_here", "_law_names", "_law_wants", "_law_skill", "_law_found", "_law_some", "_law_others", "_law_name"]) (sc := defScope s_law_bent) (by decide +kernel)) (fun _ _ _ _ _ => (pg_name (i := 7) sc_law_bent.nd rfl (Or.inl rfl))) (fun _ _ _ _ _ => (pts_one (pt_cmpR op_ne (pv 7) (pv 3) (nomark _)))) (fun _ _ _ _ _ => (pv 7))) pa_nil)))
      (pss_cons (ps_expr (pe_bm PySem.F.plainAttrs_list PySem.F.slot_list_append PySem.F.type_list_append mt_append (pv 4) (pa_cons (pe_callTy (show CallR _ _ (rDictP K) from call_dictP rfl) (by rfl) Z.b_dict PyProof.Rows.boot_dict (pa_cons (pe_op op_cat (LiI.pe_listItems rfl (pv 2) (by rfl) Z.b_list PyProof.Rows.boot_list) (pe_lst (pa_cons (pe_tup (pa_cons (pv 3) (pa_cons (pe_revT (pv 6)) pa_nil))) pa_nil))) pa_nil)) pa_nil)))
      (pss_one (ps_expr (pe_bm PySem.F.plainAttrs_list PySem.F.slot_list_append PySem.F.type_list_append mt_append (pv 4) (pa_cons (pe_callTy (show CallR _ _ (rDictP K) from call_dictP rfl) (by rfl) Z.b_dict PyProof.Rows.boot_dict (pa_cons (pe_op op_cat (LiI.pe_listItems rfl (pv 2) (by rfl) Z.b_list PyProof.Rows.boot_list) (pe_lst (pa_cons (pe_tup (pa_cons (pv 3) (pa_cons (pe_op op_repT (pe_slice sl_tup (pv 6) po_none (po_some pe_int)) pe_int) pa_nil))) pa_nil))) pa_nil)) pa_nil)))))) pss_nil)
      (pss_cons (ps_expr (pe_bm PySem.F.plainAttrs_list PySem.F.slot_list_append PySem.F.type_list_append mt_append (pv 4) (pa_cons (pe_callTy (call_dictP rfl) (by rfl) Z.b_dict PyProof.Rows.boot_dict (pa_cons (pe_lc (own := [("_law_name", 7)]) (by rfl) sc_law_bent.nd (pi_seq (pv 1)) (blkOk_by (own := [("_law_name", 7)]) (N := ["_law_pool_here", "_law_names", "_law_wants", "_law_skill", "_law_found", "_law_some", "_law_others", "_law_name"]) (sc := defScope s_law_bent) (by decide +kernel)) (fun _ _ _ _ _ => (pg_name (i := 7) sc_law_bent.nd rfl (Or.inl rfl))) (fun _ _ _ _ _ => (pts_one (pt_cmpR op_ne (pv 7) (pv 3) (nomark _)))) (fun _ _ _ _ _ => (pe_tup (pa_cons (pv 7) (pa_cons (pe_dget (hu_of hr) (pv 2) (pv 7) (fun _ _ => rfl)) pa_nil))))) pa_nil)) pa_nil)))
      (pss_one (ps_ret (pe_op op_cat (pv 4) (pe_lst (pa_cons (pe_callTy (show CallR _ _ (rDictP K) from call_dictP rfl) (by rfl) Z.b_dict PyProof.Rows.boot_dict (pa_cons (pe_op op_cat (LiI.pe_listItems rfl (pv 2) (by rfl) Z.b_list PyProof.Rows.boot_list) (pe_lst (pa_cons (pe_tup (pa_cons pe_str (pa_cons (pe_tup pa_nil) pa_nil))) pa_nil))) pa_nil)) (pa_cons (pe_callTy (show CallR _ _ (rDictN P w K) from call_dictN rfl) (by rfl) Z.b_dict PyProof.Rows.boot_dict (pa_cons (pe_op op_cat (LiI.pe_listItems rfl (pv 2) (by rfl) Z.b_list PyProof.Rows.boot_list) (pe_lst (pa_cons (pe_tup (pa_cons pe_non (pa_cons (pe_tup pa_nil) pa_nil))) pa_nil))) pa_nil)) pa_nil))))))))))), ?_⟩
    obtain ⟨nm, _⟩ := nt.nm
    have np : n ≠ p := by
      obtain ⟨x, y, hpp, _⟩ := hp
      exact ne_of hn hpp (by intro z; cases z)
    have nl : (ns.map V.str).length = ns.length := List.length_map _
    have n1 := nm.ge
    refine ⟨_, rfl, _, rfl, p, n, _, rfl, hp, .inr (SqT.of hn), np, by omega, by omega, fun y H1 hy a1 => ?_⟩
    obtain ⟨z, zin, rfl⟩ := List.mem_map.mp hy
    have hn1 := a1.keep _ _ np hn
    obtain ⟨d, kvs, rfl, hd, hk, hv⟩ := wd
    have dp : d ≠ p := by
      obtain ⟨x, y, hpp, _⟩ := hp
      exact ne_of hd hpp (by intro z; cases z)
    have hd1 := a1.keep _ _ dp hd
    have hv1 : Paired (fun (kv : Key × V) (b : List Str) => BT H1 kv.2 b) kvs row := pairedG_mono (fun kv b q => bt_mono _ _ _ _ (a1.tk hp) q) hv
    have lkv : kvs.length = ns.length := by
      have := congrArg List.length hk
      rw [List.length_map, List.length_map] at this
      exact this
    have l60 : ∀ y ∈ ns, (lk ns row y).length ≤ 60 := fun y hy => by
      have h1 := (sub y hy).length_le
      have h2 := (others_sub ns y).length_le
      omega
    obtain ⟨vz, v1, tz, rfl, htz⟩ := valV_row hk hv1 z zin
    have lz := l60 z zin
    -- the first odd things
    refine ⟨(by show 0 ≤ sizeLine; decide), fun e1 ne1 => ?_⟩
    refine ⟨_, rfl, d, kvs, rfl, Same.new ne1 _ _ hd1, fun G2 p2 ts s2 np2 _ _ hp2 _ => ⟨(by show 5 ≤ sizeLine; decide), fun fo nfo => ?_⟩⟩
    have s2 : Same (upd H1 e1 (.lst [])) G2 := s2
    have fe : H1 e1 = none := ne1
    have s12 : Same H1 G2 := (Same.new ne1).trans s2
    have s13 : Same H1 (upd G2 fo (.lst [.non, .int 5, .ref e1, .str "a", .ref p2])) := s12.trans (Same.new nfo)
    have nf1 : H1 fo = none := s12.free nfo
    have ffo : H fo = none := a1.free' nf1
    have fop : fo ≠ p := a1.pool.ne nf1
    have he2 : G2 e1 = some (.lst []) := s2 _ _ upd_same
    have ef : e1 ≠ fo := ne_of_none he2 nfo
    have pf2 : p2 ≠ fo := ne_of_none hp2 nfo
    obtain ⟨G3, eG3⟩ : ∃ G3, G3 = upd G2 fo (.lst [.non, .int 5, .ref e1, .str "a", .ref p2]) := ⟨_, rfl⟩
    have hfo3 : G3 fo = some (.lst [.non, .int 5, .ref e1, .str "a", .ref p2]) := by rw [eG3]; exact upd_same
    have he3 : G3 e1 = some (.lst []) := by rw [eG3]; exact Same.new nfo _ _ he2
    have hp3 : G3 p2 = some (.lst (ts.map V.ref)) := by rw [eG3]; exact Same.new nfo _ _ hp2
    rw [← eG3] at s13 ⊢
    clear eG3 nfo s2 he2 np2 ne1 s12
    have bw3 : ∀ x ∈ ([.non, .int 5, .ref e1, .str "a", .ref p2] : List V), BW P w K ns fo G3 x := fun x hx G kb => by
      have no : ∀ {x : V} {T : String}, Ts K G x T → T ≠ "dict" → ∃ m, WtV P w K G ns x false m := fun t ne => ⟨fun _ => none, .no _ t ne⟩
      rcases List.mem_cons.mp hx with rfl | hx
      · exact no .non (by decide)
      rcases List.mem_cons.mp hx with rfl | hx
      · exact no (.int 5) (by decide)
      rcases List.mem_cons.mp hx with rfl | hx
      · exact no (.lst (kb _ _ ef he3)) (by decide)
      rcases List.mem_cons.mp hx with rfl | hx
      · exact no (.str _) (by decide)
      · rw [List.mem_singleton.mp hx]
        exact no (.lst (kb _ _ pf2 hp3)) (by decide)
    have get : ∀ {G : Hp}, Same H1 G → DGet G d (.str z) (some (.ref tz)) := fun {G} s => by
      rw [← v1]
      exact DGet.k (k := .inr z) (s _ _ hd1)
    -- the seven odd wants of a skill
    refine ⟨_, rfl, _, rfl, d, .ref tz, rfl, get s13, tz, _, rfl, .inr (SqT.of (s13 _ _ htz)), fun q1 nq1 => ?_⟩
    have t1 := Same.new (o := .lst ((lk ns row z).map V.str)) nq1
    have h1 : (upd G3 q1 (.lst ((lk ns row z).map V.str))) q1 = some (.lst ((lk ns row z).map V.str)) := upd_same
    obtain ⟨G4, eG4⟩ : ∃ G4, G4 = upd G3 q1 (.lst ((lk ns row z).map V.str)) := ⟨_, rfl⟩
    rw [← eG4] at t1 h1 ⊢
    have f1 : q1 ≠ fo := (ne_of_none hfo3 nq1).symm
    clear eG4 nq1
    refine ⟨_, rfl, (by show 1 ≤ sizeLine; decide), fun q2 nq2 => ⟨(by show 1 ≤ sizeLine; decide), fun q3 nq3 => ?_⟩⟩
    have t2 : Same G4 (upd (upd G4 q2 (.tup [.str z])) q3 (.tup [.str "nobody"])) := (Same.new nq2).trans (Same.new nq3)
    have h2 : (upd (upd G4 q2 (.tup [.str z])) q3 (.tup [.str "nobody"])) q2 = some (.tup [.str z]) := Same.new nq3 _ _ upd_same
    have h3 : (upd (upd G4 q2 (.tup [.str z])) q3 (.tup [.str "nobody"])) q3 = some (.tup [.str "nobody"]) := upd_same
    obtain ⟨G5, eG5⟩ : ∃ G5, G5 = upd (upd G4 q2 (.tup [.str z])) q3 (.tup [.str "nobody"]) := ⟨_, rfl⟩
    rw [← eG5] at t2 h2 h3 ⊢
    clear eG5 nq2 nq3
    have s15 := (s13.trans t1).trans t2
    have cat : ∀ (y : V) (G : Hp) (Q : VK), Same H1 G → (∀ q G', Same G G' → G' q = some (.tup ((lk ns row z).map V.str ++ [y])) → Q (.ref q) G') → ∀ t5, G t5 = none → rCatA K (.ref tz) (.ref t5) (upd G t5 (.tup [y])) Q := fun y G Q s kQ t5 n5 => by
      refine ⟨tz, t5, (lk ns row z).map V.str, [y], rfl, rfl, SqT.of (Same.new n5 _ _ (s _ _ htz)), SqT.of upd_same, ?_, fun e0 => ?_, fun _ e0 => (nomatch e0), fun _ _ u nu => ?_⟩
      · rw [List.length_map, sizeLine_eq]
        show (lk ns row z).length + 1 ≤ _
        omega
      · refine kQ t5 _ (Same.new n5) ?_
        rw [upd_same, e0]
        rfl
      · exact kQ u _ ((Same.new n5).trans (Same.new nu)) upd_same
    refine ⟨_, rfl, _, rfl, d, .ref tz, rfl, get s15, (by show 1 ≤ sizeLine; decide), fun t5 n5 => ?_⟩
    refine cat .non G5 _ s15 (fun q5 G6 t6 h5 => ?_) t5 n5
    have s16 := s15.trans t6
    refine ⟨_, rfl, _, rfl, d, .ref tz, rfl, get s16, _, rfl, (by show 1 ≤ sizeLine; decide), fun t7 n7 => ?_⟩
    refine cat (.str z) G6 _ s16 (fun q6 G7 t8 h6 => ?_) t7 n7
    have s17 := s16.trans t8
    refine ⟨(by show 7 ≤ sizeLine; decide), fun l7 nl7 => ?_⟩
    have t9 : Same G7 (upd G7 l7 (.lst [.ref q1, .ref q2, .ref q3, .non, .ref q5, .ref q6, .str "a"])) := Same.new nl7
    have h7 : (upd G7 l7 (.lst [.ref q1, .ref q2, .ref q3, .non, .ref q5, .ref q6, .str "a"])) l7 = some (.lst [.ref q1, .ref q2, .ref q3, .non, .ref q5, .ref q6, .str "a"]) := upd_same
    obtain ⟨xs7, exs7⟩ : ∃ xs7 : List V, xs7 = [.ref q1, .ref q2, .ref q3, .non, .ref q5, .ref q6, .str "a"] := ⟨_, rfl⟩
    rw [← exs7] at t9 h7 ⊢
    have s37 : Same G3 G7 := ((t1.trans t2).trans t6).trans t8
    have f7 : l7 ≠ fo := (ne_of_none (s37 _ _ hfo3) nl7).symm
    obtain ⟨G8, eG8⟩ : ∃ G8, G8 = upd G7 l7 (.lst xs7) := ⟨_, rfl⟩
    rw [← eG8] at t9 h7 ⊢
    clear eG8 nl7
    have s18 := s17.trans t9
    have s38 := s37.trans t9
    have hfo8 := s38 _ _ hfo3
    have bw8 : ∀ x ∈ ([.non, .int 5, .ref e1, .str "a", .ref p2] : List V), BW P w K ns fo G8 x := fun x hx => (bw3 x hx).go (.of s38)
    have strs1 : ∀ (ys : List Str), ∀ y ∈ ys.map V.str, ∃ T, Ts K G8 y T := fun ys y hy => by
      obtain ⟨s, _, rfl⟩ := List.mem_map.mp hy
      exact ⟨_, .str s⟩
    have odd7 : ∀ v ∈ xs7, ∃ o, (∀ G, Kb fo G8 G → Ov K G v o) ∧ (ordO ns o && !hasO z o) = false := fun v hvv => by
      have tup : ∀ (q : Addr) (ys : List V), G8 q = some (.tup ys) → (∀ y ∈ ys, y = .non ∨ ∃ s, y = .str s) → ys.length ≤ 60 → ∀ G, Kb fo G8 G → Ov K G (.ref q) (some ys) := fun q ys hq flat l G kb =>
        ⟨q, rfl, SqT.of (kb.tk hfo8 _ _ hq), fun y hy => by
          rcases flat y hy with rfl | ⟨s, rfl⟩
          · exact ⟨_, .non⟩
          · exact ⟨_, .str s⟩, l⟩
      have non_not : ∀ ys : List V, V.non ∈ ys → unlike ns ys = false := fun ys hy => by
        unfold unlike
        have : ys.all (isOne ns) = false := by
          rw [List.all_eq_false]
          exact ⟨.non, hy, by simp [isOne]⟩
        rw [this, Bool.false_and, Bool.and_false]
      rw [exs7] at hvv
      rcases List.mem_cons.mp hvv with rfl | hvv
      · exact ⟨none, fun G kb => ⟨_, .lst (kb _ _ f1 (t9 _ _ (t8 _ _ (t6 _ _ (t2 _ _ h1))))), by decide⟩, rfl⟩
      rcases List.mem_cons.mp hvv with rfl | hvv
      · refine ⟨some [.str z], tup q2 _ (t9 _ _ (t8 _ _ (t6 _ _ h2))) (fun y hy => .inr ⟨z, List.mem_singleton.mp hy⟩) (by show 1 ≤ 60; decide), ?_⟩
        have : hasO z (some [V.str z]) = true := decide_eq_true (by show z ∈ [z]; exact List.mem_cons_self)
        rw [this, Bool.not_true, Bool.and_false]
      rcases List.mem_cons.mp hvv with rfl | hvv
      · refine ⟨some [.str "nobody"], tup q3 _ (t9 _ _ (t8 _ _ (t6 _ _ h3))) (fun y hy => .inr ⟨_, List.mem_singleton.mp hy⟩) (by show 1 ≤ 60; decide), ?_⟩
        have : unlike ns [V.str "nobody"] = false := by
          unfold unlike
          have : [V.str "nobody"].all (isOne ns) = false := by
            show (decide (("nobody" : Str) ∈ ns) && true) = false
            rw [decide_eq_false nt.nobody]
            rfl
          rw [this, Bool.false_and, Bool.and_false]
        show ((unlike ns [V.str "nobody"] && _) && _) = false
        rw [this, Bool.false_and, Bool.false_and]
      rcases List.mem_cons.mp hvv with rfl | hvv
      · exact ⟨none, fun G kb => ⟨_, .non, by decide⟩, rfl⟩
      rcases List.mem_cons.mp hvv with rfl | hvv
      · refine ⟨some ((lk ns row z).map V.str ++ [.non]), tup q5 _ (t9 _ _ (t8 _ _ h5)) (fun y hy => ?_) ?_, ?_⟩
        · rcases List.mem_append.mp hy with hy | hy
          · obtain ⟨s, _, rfl⟩ := List.mem_map.mp hy
            exact .inr ⟨s, rfl⟩
          · exact .inl (List.mem_singleton.mp hy)
        · rw [List.length_append, List.length_map]
          have := (sub z zin).length_le
          have := (others_sub ns z).length_le
          show _ + 1 ≤ 60
          omega
        · show ((unlike ns _ && _) && _) = false
          rw [non_not _ (List.mem_append_right _ List.mem_cons_self), Bool.false_and, Bool.false_and]
      rcases List.mem_cons.mp hvv with rfl | hvv
      · refine ⟨some ((lk ns row z).map V.str ++ [.str z]), tup q6 _ (t9 _ _ h6) (fun y hy => ?_) ?_, ?_⟩
        · rcases List.mem_append.mp hy with hy | hy
          · obtain ⟨s, _, rfl⟩ := List.mem_map.mp hy
            exact .inr ⟨s, rfl⟩
          · exact .inr ⟨z, List.mem_singleton.mp hy⟩
        · rw [List.length_append, List.length_map]
          have := (sub z zin).length_le
          have := (others_sub ns z).length_le
          show _ + 1 ≤ 60
          omega
        · have e : (lk ns row z).map V.str ++ [V.str z] = ((lk ns row z) ++ [z]).map V.str := by rw [List.map_append]; rfl
          have : hasO z (some ((lk ns row z).map V.str ++ [V.str z])) = true := by
            rw [e]
            refine decide_eq_true ?_
            rw [strsOf_map]
            exact List.mem_append_right _ List.mem_cons_self
          rw [this, Bool.not_true, Bool.and_false]
      · rw [List.mem_singleton.mp hvv]
        exact ⟨none, fun G kb => ⟨_, .str _, by decide⟩, rfl⟩
    have ndk : (kvs.map (·.1)).Nodup := by
      rw [hk]
      exact inr_nodup nm.nd
    have mput : ∀ q : Key × V, mergeK [] (kvs ++ [q]) = putK kvs q.1 q.2 := fun q => by rw [merge_app, merge_nd ndk]
    have l7' : xs7.length = 7 := by rw [exs7]; rfl
    clear exs7 t1 t2 t6 t8 t9 h1 h2 h3 h5 h6 s37 s38 s15 s16 s17 cat bw3 hfo3 he3 hp3 s13
    refine ⟨l7, rfl, .inl ⟨⟨_, SqL.of h7⟩, ?_⟩⟩
    refine for_list (K := K) (a := l7) (xs := xs7) (fun i σ G => ∃ (u5 : Option V) (xf : List V), σ = [some (.ref p), some (.ref n), some (.ref d), some (.str z), some (.ref fo), u5, none, none] ∧ Same H1 G ∧ Kb fo G8 G ∧ G fo = some (.lst xf) ∧ (∀ x ∈ xf, BW P w K ns fo G x) ∧ xf.length = 5 + i)
      ⟨none, _, rfl, s18, .of (Same.refl _), hfo8, bw8, rfl⟩ (fun i σ G _ ⟨_, _, _, _, kb, _⟩ => SqL.of (kb _ _ f7 h7)) ?_ ?_
    · rintro i v σ G hi ⟨u5, xf, rfl, sg, kb, hfoG, bwG, lxf⟩
      obtain ⟨o, ovo, bad⟩ := odd7 v (List.mem_of_getElem? hi)
      refine ⟨_, rfl, .inl ⟨rfl, _, SqL.of hfoG⟩, ?_⟩
      refine dict_and (K := K) (kvs := kvs) (.inr z) (fun b _ => b = v) rfl (sg _ _ hd1) (by omega) (fun _ _ _ _ h => h) (fun G' Q2 s kk => ⟨_, rfl, _, rfl, kk _ _ (Same.refl _) rfl⟩) fun dn b G' s hdn eb => ?_
      subst eb
      rw [mput] at hdn
      have hfo' := s _ _ hfoG
      have sG' := sg.trans s
      have hv' : Paired (fun (kv : Key × V) (b : List Str) => BT G' kv.2 b) kvs row := pairedG_mono (fun kv b q => bt_mono _ _ _ _ (Tk.of sG') q) hv1
      have bwN : BW P w K ns fo G' (.ref dn) := bw_put hfo' hdn hk hv' l60 zin (fun G2 k2 => ovo G2 ((kb.trans (.of s)).trans k2)) bad
      have i7 : i < 7 := by
        have := (List.getElem?_eq_some_iff.mp hi).1
        omega
      refine ⟨fo, xf, _, rfl, rfl, hfo', line_of (m := 20) (by omega) (by decide), ?_⟩
      refine ⟨_, xf ++ [.ref dn], rfl, fun c u hc => ?_, (kb.trans (.of s)).trans .put, upd_same, fun x hx => ?_, ?_⟩
      · rw [upd_ne (ne_of_none hc nf1)]
        exact sG' _ _ hc
      · rcases List.mem_append.mp hx with hx | hx
        · exact (bwG x hx).go ((Kb.of s).trans .put)
        · rw [List.mem_singleton.mp hx]
          exact bwN.go .put
      · rw [List.length_append, lxf]
        rfl
    rintro σ Ga ⟨u5, xf, rfl, sg, kb, hfoG, bwG, lxf⟩
    rw [l7'] at lxf
    clear odd7 bw8 hfo8 h7 kb s18
    -- with more than two names: the others turned about, one of them twice
    dsimp only [tSeq]
    refine ts_by (fun σ' G => ∃ (u5 u6 : Option V) (xf : List V), σ' = [some (.ref p), some (.ref n), some (.ref d), some (.str z), some (.ref fo), u5, u6, none] ∧ Same H1 G ∧ G fo = some (.lst xf) ∧ (∀ x ∈ xf, BW P w K ns fo G x) ∧ xf.length ≤ 14) (fun D kD => ?_) ?_
    · refine ⟨_, rfl, _, (ns.map V.str).length, rfl, .inr ⟨_, SqT.of (sg _ _ hn1), rfl⟩, _, _, rfl, rfl, _, rfl, ?_⟩
      rw [List.length_map]
      refine ifB (fun c => ?_) (fun c => kD _ _ ⟨_, _, xf, rfl, sg, hfoG, bwG, by omega⟩)
      have c3 : ns.length = 3 := by
        have := of_decide_eq_true c
        omega
      obtain ⟨y1, y2, eo⟩ : ∃ y1 y2, othersB ns z = [y1, y2] := by
        have h2 := others_len nm.nd zin
        match q : othersB ns z, h2 with
        | [], h2 => simp at h2; omega
        | [a], h2 => simp at h2; omega
        | [a, b], _ => exact ⟨a, b, rfl⟩
        | a :: b :: c :: l, h2 => simp at h2; omega
      refine ⟨_, rfl, n, rfl, lc_seq (.inr (SqT.of (sg _ _ hn1))) (fun j => ((ns.take j).filter fun x => !decide (x = z)).map V.str) rfl (fun D nD j y Hy hj pp => ?_) fun D Gb nD sb atb => ?_⟩
      · obtain ⟨x, rfl, hx⟩ := strs_get hj
        refine ⟨rfl, _, rfl, _, rfl, rfl, _, rfl, ?_⟩
        by_cases e : x = z
        · exact ifF (by rw [decide_eq_true (by rw [e])]; rfl) (pp.skip (filt_no V.str _ hx (by rw [decide_eq_true e]; rfl)))
        · refine ifT (by rw [decide_eq_false (by intro q; injection q with q; exact e q)]; rfl) ⟨_, rfl, pp.put nD (filt_one V.str _ hx (by rw [decide_eq_false e]; rfl)) (line_of (m := 60) ?_ (by decide))⟩
          rw [List.length_map]
          exact Nat.le_trans (List.length_filter_le _ _) (Nat.le_trans (List.length_take_le' _ _) (by omega))
      rw [List.length_map, List.take_length] at atb
      have atb : Gb D = some (.lst ((othersB ns z).map V.str)) := atb
      rw [eo] at atb
      refine ⟨D, _, rfl, .inl ⟨SqL.of atb, fun ot not_ => ?_⟩⟩
      have sc : Same Ga (upd Gb ot (.tup [.str y1, .str y2])) := sb.trans (Same.new not_)
      have hot : (upd Gb ot (.tup [.str y1, .str y2])) ot = some (.tup [.str y1, .str y2]) := upd_same
      obtain ⟨Gc, eGc⟩ : ∃ Gc, Gc = upd Gb ot (.tup [.str y1, .str y2]) := ⟨_, rfl⟩
      show tSeq _ _ _ _ (upd Gb ot (.tup [.str y1, .str y2]))
      rw [← eGc] at sc hot ⊢
      clear eGc not_ atb nD sb
      have sgc := sg.trans sc
      have hfoc := sc _ _ hfoG
      have put : ∀ (G : Hp) (xf : List V) (dn : Addr) (b : V) (o : Option (List V)), Same H1 G → G fo = some (.lst xf) → G dn = some (.dK (putK kvs (.inr z) b)) → (∀ G', Kb fo G G' → Ov K G' b o) → (ordO ns o && !hasO z o) = false → BW P w K ns fo G (.ref dn) := fun G xf dn b o s h1 h2 h3 h4 =>
        bw_put h1 h2 hk (pairedG_mono (fun kv b q => bt_mono _ _ _ _ (Tk.of s) q) hv1) l60 zin h3 h4
      have two : ∀ (G : Hp) (xf : List V) (q : Addr) (a b : Str), G fo = some (.lst xf) → G q = some (.tup [.str a, .str b]) → ∀ G', Kb fo G G' → Ov K G' (.ref q) (some [.str a, .str b]) := fun G xf q a b h1 h2 G' kb =>
        ⟨q, rfl, SqT.of (kb.tk h1 _ _ h2), fun y hy => by
          rcases List.mem_cons.mp hy with rfl | hy
          · exact ⟨_, .str _⟩
          · rw [List.mem_singleton.mp hy]
            exact ⟨_, .str _⟩, by show 2 ≤ 60; decide⟩
      -- turned about
      refine ⟨_, rfl, .inl ⟨rfl, _, SqL.of hfoc⟩, ?_⟩
      refine dict_and (K := K) (kvs := kvs) (.inr z) (fun b G => ∃ q, b = .ref q ∧ G q = some (.tup [.str y2, .str y1])) rfl (sgc _ _ hd1) (by omega) (fun b G G' s ⟨q, e, h⟩ => ⟨q, e, s _ _ h⟩) (fun G' Q2 s kk => ⟨_, rfl, _, rfl, ot, _, _, rfl, SqT.of (s _ _ hot), fun q nq => kk _ _ (Same.new nq) ⟨q, rfl, upd_same⟩⟩) fun dn b Gd sd hdn ⟨q, eb, hq⟩ => ?_
      subst eb
      rw [mput] at hdn
      have sgd := sgc.trans sd
      have hfod := sd _ _ hfoc
      have bwd := put Gd xf dn _ _ sgd hfod hdn (two Gd xf q y2 y1 hfod hq) (by rw [rev_bad nm.nd eo, Bool.false_and])
      refine ⟨fo, xf, _, rfl, rfl, hfod, line_of (m := 20) (by omega) (by decide), ?_⟩
      have kbe : Kb fo Gd (upd Gd fo (.lst (xf ++ [.ref dn]))) := .put
      have sge : Same H1 (upd Gd fo (.lst (xf ++ [.ref dn]))) := fun c u hc => by
        rw [upd_ne (ne_of_none hc nf1)]
        exact sgd _ _ hc
      have hfoe : (upd Gd fo (.lst (xf ++ [.ref dn]))) fo = some (.lst (xf ++ [.ref dn])) := upd_same
      have bwe : ∀ x ∈ xf ++ [.ref dn], BW P w K ns fo (upd Gd fo (.lst (xf ++ [.ref dn]))) x := fun x hx => by
        rcases List.mem_append.mp hx with hx | hx
        · exact (bwG x hx).go ((Kb.of (sc.trans sd)).trans kbe)
        · rw [List.mem_singleton.mp hx]
          exact bwd.go kbe
      have hote := kbe.tk hfod _ _ (sd _ _ hot)
      obtain ⟨xe, exe⟩ : ∃ xe, xe = xf ++ [V.ref dn] := ⟨_, rfl⟩
      have lxe : xe.length = 13 := by
        rw [exe, List.length_append, lxf]
        rfl
      rw [← exe] at kbe sge hfoe bwe hote ⊢
      obtain ⟨Ge, eGe⟩ : ∃ Ge, Ge = upd Gd fo (.lst xe) := ⟨_, rfl⟩
      rw [← eGe] at kbe sge hfoe bwe hote ⊢
      clear eGe exe bwd hdn hq sgd hfod hot sgc hfoc sc bwG hfoG lxf sg sd kbe
      -- one of them twice
      refine ⟨_, rfl, .inl ⟨rfl, _, SqL.of hfoe⟩, ?_⟩
      refine dict_and (K := K) (kvs := kvs) (.inr z) (fun b G => ∃ q, b = .ref q ∧ G q = some (.tup [.str y1, .str y1])) rfl (sge _ _ hd1) (by omega) (fun b G G' s ⟨q, e, h⟩ => ⟨q, e, s _ _ h⟩)
        (fun G' Q2 s kk => ⟨_, rfl, _, rfl, 1, rfl, ot, _, rfl, SqT.of (s _ _ hote), (by show ¬ (HT.sIx 2 0 none = 0 ∧ HT.sIx 2 2 (some 1) = 2); decide), fun q nq => ⟨q, 2, [.str y1], rfl, rfl, SqT.of upd_same, (fun e => nomatch e), by decide, by decide, (by show 1 ≤ 1000; decide), fun q2 nq2 => kk _ _ ((Same.new nq).trans (Same.new nq2)) ⟨q2, rfl, upd_same⟩⟩⟩) fun dn b Gf sf hdn ⟨q, eb, hq⟩ => ?_
      subst eb
      rw [mput] at hdn
      have sgf := sge.trans sf
      have hfof := sf _ _ hfoe
      have bwf := put Gf xe dn _ _ sgf hfof hdn (two Gf xe q y1 y1 hfof hq) (by rw [twice_bad, Bool.false_and])
      refine ⟨fo, xe, _, rfl, rfl, hfof, line_of (m := 20) (by omega) (by decide), ?_⟩
      refine kD _ _ ⟨_, _, xe ++ [.ref dn], rfl, fun c u hc => ?_, upd_same, fun x hx => ?_, ?_⟩
      · rw [upd_ne (ne_of_none hc nf1)]
        exact sgf _ _ hc
      · rcases List.mem_append.mp hx with hx | hx
        · exact (bwe x hx).go ((Kb.of sf).trans .put)
        · rw [List.mem_singleton.mp hx]
          exact bwf.go .put
      · rw [List.length_append, lxe]
        exact Nat.le_refl 14
    rintro σ Gb ⟨u5, u6, xb, rfl, sb, hfob, bwb, lxb⟩
    have val : ∀ y ∈ ns, ∃ t, valV kvs (.inr y) = some (.ref t) ∧ H1 t = some (.tup ((lk ns row y).map V.str)) := fun y hy => by
      obtain ⟨u, h1, t, rfl, ht⟩ := valV_row hk hv1 y hy
      exact ⟨t, h1, ht⟩
    -- all but the skill
    refine ⟨_, rfl, .inl ⟨rfl, _, SqL.of hfob⟩, ?_⟩
    refine ⟨_, rfl, n, rfl, lc_new (.inr (SqT.of (sb _ _ hn1))) KvT (fun j => ((ns.take j).filter fun x => !decide (x = z)).map fun y => ((.inr y : Key), (valV kvs (.inr y)).getD .non)) rfl (fun D nD j y Hy hj pp => ?_) fun D Gc ys nD sc hD pD => ?_⟩
    · obtain ⟨x, rfl, hx⟩ := strs_get hj
      refine ⟨rfl, _, rfl, _, rfl, rfl, _, rfl, ?_⟩
      by_cases e : x = z
      · exact ifF (by rw [decide_eq_true (by rw [e])]; rfl) (pp.skip (filt_no (fun y : Str => ((.inr y : Key), (valV kvs (.inr y)).getD .non)) _ hx (by rw [decide_eq_true e]; rfl)))
      · obtain ⟨t, h1, ht⟩ := val x (List.mem_of_getElem? hx)
        refine ifT (by rw [decide_eq_false (by intro q; injection q with q; exact e q)]; rfl) ⟨_, rfl, _, rfl, _, rfl, d, .ref t, rfl, ?_, (by show 2 ≤ sizeLine; decide), fun q nq => ?_⟩
        · rw [← h1]
          exact DGet.k (k := .inr x) (pp.same _ _ (sb _ _ hd1))
        · refine (pp.ext kvt_mono (Same.new nq)).put kvt_mono nD ⟨q, rfl, ?_⟩ (filt_one (fun y : Str => ((.inr y : Key), (valV kvs (.inr y)).getD .non)) _ hx (by rw [decide_eq_false e]; rfl)) (line_of (m := 60) ?_ (by decide))
          · rw [upd_same, h1]
            rfl
          · rw [List.length_map]
            exact Nat.le_trans (List.length_filter_le _ _) (Nat.le_trans (List.length_take_le' _ _) (by omega))
    rw [List.length_map, List.take_length] at pD
    obtain ⟨ps, eps, pps⟩ := kvts (K := K) pD
    rw [eps] at hD
    refine ⟨D, ps, _, rfl, SqL.of hD, pps, fun dn ndn => ?_⟩
    have kk : (((ns.filter fun x => !decide (x = z)).map fun y => ((.inr y : Key), (valV kvs (.inr y)).getD .non)).map (·.1)) = (othersB ns z).map Sum.inr := by
      rw [List.map_map]
      rfl
    rw [merge_nd (by rw [kk]; exact inr_nodup (nm.nd.sublist (others_sub ns z)))]
    obtain ⟨kvo, ekvo⟩ : ∃ kvo, kvo = (ns.filter fun x => !decide (x = z)).map fun y => ((.inr y : Key), (valV kvs (.inr y)).getD .non) := ⟨_, rfl⟩
    have lkvo : kvo.length + 1 = ns.length := by
      rw [ekvo, List.length_map]
      exact others_len nm.nd zin
    rw [← ekvo]
    have sbd : Same Gb (upd Gc dn (.dK kvo)) := sc.trans (Same.new ndn)
    have hdn : (upd Gc dn (.dK kvo)) dn = some (.dK kvo) := upd_same
    have hfod := sbd _ _ hfob
    have bwd : BW P w K ns fo (upd Gc dn (.dK kvo)) (.ref dn) := bw_len hfod hdn (by omega)
    obtain ⟨Gd, eGd⟩ : ∃ Gd, Gd = upd Gc dn (.dK kvo) := ⟨_, rfl⟩
    rw [← eGd] at sbd hdn hfod bwd ⊢
    refine ⟨fo, xb, _, rfl, rfl, hfod, line_of (m := 20) (by omega) (by decide), ?_⟩
    have kbe : Kb fo Gd (upd Gd fo (.lst (xb ++ [.ref dn]))) := .put
    have sge : Same H1 (upd Gd fo (.lst (xb ++ [.ref dn]))) := fun c u hc => by
      rw [upd_ne (ne_of_none hc nf1)]
      exact sbd _ _ (sb _ _ hc)
    have hfoe : (upd Gd fo (.lst (xb ++ [.ref dn]))) fo = some (.lst (xb ++ [.ref dn])) := upd_same
    have bwe : ∀ x ∈ xb ++ [.ref dn], BW P w K ns fo (upd Gd fo (.lst (xb ++ [.ref dn]))) x := fun x hx => by
      rcases List.mem_append.mp hx with hx | hx
      · exact (bwb x hx).go ((Kb.of sbd).trans kbe)
      · rw [List.mem_singleton.mp hx]
        exact bwd.go kbe
    obtain ⟨xe, exe⟩ : ∃ xe, xe = xb ++ [V.ref dn] := ⟨_, rfl⟩
    have lxe : xe.length ≤ 15 := by
      rw [exe, List.length_append]
      show _ + 1 ≤ 15
      omega
    rw [← exe] at kbe sge hfoe bwe ⊢
    obtain ⟨Ge, eGe⟩ : ∃ Ge, Ge = upd Gd fo (.lst xe) := ⟨_, rfl⟩
    rw [← eGe] at kbe sge hfoe bwe ⊢
    clear eGe exe kbe bwd hdn sbd hfod eGd ndn pps pD hD eps bwb hfob sb kk ekvo sc nD
    -- one name more, None more
    refine ⟨_, rfl, ?_⟩
    refine dict_and (K := K) (kvs := kvs) (.inr "nobody") (fun _ _ => True) rfl (sge _ _ hd1) (by omega) (fun _ _ _ _ h => h) (fun G' Q2 s kk => ⟨Nat.zero_le _, fun e ne => kk _ _ (Same.new ne) trivial⟩) fun dn2 b Gf sf hdn2 _ => ?_
    have nk : ((kvs ++ [((.inr "nobody" : Key), b)]).map (·.1)).Nodup := by
      rw [List.map_append, hk, List.nodup_append]
      refine ⟨inr_nodup nm.nd, by simp, fun x hx y hy e => ?_⟩
      obtain ⟨s, hs, rfl⟩ := List.mem_map.mp hx
      have hy : y = (Sum.inr ("nobody" : Str) : Key) := by simpa using hy
      rw [hy] at e
      injection e with e
      exact nt.nobody (e ▸ hs)
    rw [merge_nd nk] at hdn2
    have sgf := sge.trans sf
    have hfof := sf _ _ hfoe
    have bwf : BW P w K ns fo Gf (.ref dn2) := bw_len hfof hdn2 (by
      rw [List.length_append, lkv]
      show ns.length + 1 ≠ ns.length
      omega)
    refine items_and (kvs := kvs) (fun a b _ => a = .non) rfl (sgf _ _ hd1) (by omega) (fun _ _ _ _ _ h => h) (fun G' Q2 s kk => ⟨Nat.zero_le _, fun e ne => kk _ _ _ (Same.new ne) rfl⟩) fun u ts t a b Gg sg hu pt ht ea => ?_
    subst ea
    obtain ⟨ok1, ok2⟩ := okeys (K := K) hk pt
    refine ⟨u, ts ++ [t], (kvs.map fun kv => (keyO kv.1, kv.2)) ++ [(none, b)], rfl, SqL.of hu, pairedG_snoc (R := fun p (kv : Option Str × V) => SqT K Gg p [oK kv.1, kv.2]) (x := t) (w := (none, b)) (SqT.of ht) ok1, ?_, fun dn3 ndn3 => ?_⟩
    · rw [List.map_append, ok2, List.nodup_append]
      refine ⟨List.Pairwise.map some (fun _ _ hne e => hne (Option.some.inj e)) nm.nd, by simp, fun x hx y hy e => ?_⟩
      obtain ⟨s, _, rfl⟩ := List.mem_map.mp hx
      have hy : y = none := by simpa using hy
      rw [hy] at e
      cases e
    have l3n : ((kvs.map fun kv => (keyO kv.1, kv.2)) ++ [((none : Option Str), b)]).length = ns.length + 1 := by
      rw [List.length_append, List.length_map, lkv]
      rfl
    rw [l3n]
    have sh : Same Gg (upd Gg dn3 (SdN P w dn3 (ns.length + 1))) := Same.new ndn3
    have hdn3 : (upd Gg dn3 (SdN P w dn3 (ns.length + 1))) dn3 = some (SdN P w dn3 (ns.length + 1)) := upd_same
    have sfh : Same Gf (upd Gg dn3 (SdN P w dn3 (ns.length + 1))) := sg.trans sh
    obtain ⟨Gh, eGh⟩ : ∃ Gh, Gh = upd Gg dn3 (SdN P w dn3 (ns.length + 1)) := ⟨_, rfl⟩
    rw [← eGh] at sfh hdn3
    have fin : Q = Q := rfl
    refine ⟨(by show 2 ≤ sizeLine; decide), fun l2 nl2 => ⟨fo, l2, xe, [.ref dn2, .ref dn3], rfl, rfl, ?_, upd_same, ?_, fun u2 nu2 => ?_⟩⟩
    · exact Same.new nl2 _ _ (sh _ _ (sg _ _ hfof))
    · rw [sizeLine_eq]
      show xe.length + 2 ≤ _
      omega
    rw [← eGh] at nl2 nu2 ⊢
    have si : Same Gh (upd (upd Gh l2 (.lst [.ref dn2, .ref dn3])) u2 (.lst (xe ++ [.ref dn2, .ref dn3]))) := (Same.new nl2).trans (Same.new nu2)
    have hfoh : Gh fo = some (.lst xe) := sfh _ _ hfof
    refine k u2 _ _ ?_ (a1.same ((sgf.trans sfh).trans si)) upd_same fun x hx => ?_
    · exact a1.free' (((sgf.trans sfh).trans (Same.new nl2)).free nu2)
    · rcases List.mem_append.mp hx with hx | hx
      · exact bwe x hx _ (.of ((sf.trans sfh).trans si))
      rcases List.mem_cons.mp hx with rfl | hx
      · exact bwf _ (.of (sfh.trans si))
      · rw [List.mem_singleton.mp hx]
        exact ⟨fun _ => none, .non _ (si _ _ hdn3) (by omega) (by omega)⟩
end
end Rt
end
section
set_option Elab.async false
set_option linter.all false
set_option maxRecDepth 100000
set_option maxHeartbeats 4000000
/-! a list of anything compared with an empty one -/
namespace Rt
open PySem PySem.Spec PyProof.Rows L2
def rEqNil (K : PySem.W.Frag) : R2 := fun x y H Q => ∃ a xs b, x = .ref a ∧ y = .ref b ∧ SqL K H a xs ∧ SqL K H b [] ∧ Q (.bl xs.isEmpty) H
theorem op_eqNil {X : Cx} (hu : X.A.units + 64 < cLine) : OpR X (compareOp .Eq) (rEqNil X.K) := by
  intro pins s σ H x y v u0 Q I rx ry ⟨a, xs, b, ex, ey, ha, hb, q⟩
  subst ex ey
  cases xs with
  | nil =>
    refine op_eqD hu pins s σ H _ _ v u0 Q I rx ry ⟨.list [], .list [], .lst ha .nil, .lst hb .nil, by rfl, by rfl, ?_⟩
    have e : PyData.eqv (.list []) (.list []) = true := by simp [PyData.eqv, PyData.eqvAll]
    rw [e]
    exact q
  | cons y ys =>
    cases rx
    cases ry
    obtain ⟨is1, r1, p1, _⟩ := I.list ha
    obtain ⟨is2, r2, p2, _⟩ := I.list hb
    cases r2
    cases r1 with
    | cons ra rt =>
    rename_i u us
    obtain ⟨o1, h1, c1, n1, d1⟩ := p1.isList
    obtain ⟨o2, h2, c2, n2, d2⟩ := p2.isList
    obtain ⟨k1, dd1, dt1, sl1⟩ := o1
    obtain ⟨k2, dd2, dt2, sl2⟩ := o2
    simp only at c1 d1 c2 d2
    subst c1 d1 c2 d2
    have ta : s.TypeIs (.ref a) "list" := ⟨_, h1, rfl⟩
    have tb : s.TypeIs (.ref b) "list" := ⟨_, h2, rfl⟩
    have fin : EP X pins σ Q (.bool false) s := ⟨.bl false, H, I, rfl, q⟩
    show wpAny (model X.prog X.w) X.A (richCompare .Eq (.ref a) (.ref b)) (EP X pins σ Q) X.xe s
    refine wpAny_richCompare_same_room (op := .Eq) ta tb F.slot_list_eq ?_ (by omega)
    refine call_meets F.slot_list_eq ta F.entry_list_eq (F.args_list_eq_2 _ _) (SeqAt.list_eq_lengthsAt (items := (u :: us).toArray) (items2 := #[]) a b n1 n2 dd1 dd2 sl1 sl2 (by simp)) ?_
    exact ⟨h1, h2, (fun z => nomatch z), fin⟩
end Rt
end
section
set_option Elab.async false
set_option linter.all false
set_option maxRecDepth 100000
set_option maxHeartbeats 4000000
/-! defs and laws whose promise is told where no repr is under way; repr of data -/
namespace Rt
open PySem PySem.Spec PyProof.Rows L2
/-- what a def's code is -/
def codeOf (K : PySem.W.Frag) (f : Addr) : Option Value := match K.lookup f with
  | some ⟨_, _, .func fd, _⟩ => some fd.code
  | _ => none
abbrev SpG : Type := List V → Hp → VK → Prop
structure FnG (P : Program) (w : World) (K : PySem.W.Frag) (mg : Str → Option Value) (base : Heap) (k : Nat) (f : Addr) (fd : FuncData) (ps : List Str) (sp : SpG) : Prop where
  len : ∀ vs H Q, sp vs H Q → vs.length = ps.length
  run : ∀ (A : Around) (outer : List Env) (s : Shared) (H : Hp) (us : List Value) (vs : List V) (Q : VK), A.guards = some [] → Room k A → Env0 P w K mg base A outer s H → Vals vs us → sp vs H Q → codeAny (model P w) A (.call (.ref f) ⟨us, []⟩) (CR C8.CX0 outer P w H s Q C8.E0) s
section
variable {P : Program} {w : World} {K : PySem.W.Frag} {mg : Str → Option Value} {base : Heap} {x qual : Str} {params : Arguments} {body : List Stmt} {scope : Scope} {f : Addr} {fd : FuncData} {N ps : List Str} {k : Nat} {sp : SpG}
theorem FnG.of (F : FunD K x qual params body scope [] [] f fd) (S : FnScope N ps scope) (hb : Binds K fd ps []) (len : ∀ vs H Q, sp vs H Q → vs.length = ps.length)
    (hbody : ∀ (cdv : Value) (A : Around) (outer : List Env) (s : Shared) (H : Hp) (vs : List V) (Q : VK), codeOf K f = some cdv → A.guards = some [] → Room k (A.deeper (envOfC qual scope s.heap.objs.size f cdv)) → sp vs H Q →
      ∃ t, PSs (cxOf C8.CX0 P w K mg base N qual scope f cdv A outer s H C8.E0).nox body t ∧ t { nx := fun _ H' => Q .non H', rt := Q } (start N vs) H) : FnG P w K mg base (k + 1) f fd ps sp := by
  refine ⟨len, fun A outer s H us vs Q gu hr e0 r h => ?_⟩
  obtain ⟨oc, od, dV, kV, doc, pm, an, cdv, ct, osl, rfl, lk, hcd, _, _⟩ := F.ex
  have KX : K.In s.heap := e0.mod.kin.keeps fun b o e => (e0.bs b o e).1
  have ln := len _ _ _ h
  have bd := hb s us KX (by rw [r.length] at ln; simpa using ln)
  refine LamX.run_ofS lk hcd S hr e0 (by simpa using bd) r ln fun hr2 => ?_
  obtain ⟨t, ht, q⟩ := hbody cdv A outer s H vs Q (by unfold codeOf; rw [lk] <;> rfl) gu hr2 h
  exact ⟨t, ht.nox, q⟩
end
/-- the text that repr gives -/
def rT : PyData → Str
  | .none => "None"
  | .bool b => if b then "True" else "False"
  | .int i => toString i
  | .str x => reprText x
  | d => d.shown
structure RepOk (d : PyData) : Prop where
  sh : d.showable = true
  nd : d.hasDict = false
  dp : d.depth ≤ 60
  len : (rT d).length ≤ sizeLine
  int : ∀ i, d = .int i → i.natAbs.log2 < 1920
def rRep (K : PySem.W.Frag) : List V → Hp → VK → Prop := fun xs H Q => ∃ x d, xs = [x] ∧ Dp K H x d ∧ RepOk d ∧ Q (.str (rT d)) H
theorem call_rep {X : Cx} (gu : X.A.guards = some []) (room : X.A.units + 70 < cLine) : CallR X (.builtin "repr") (rRep X.K) := by
  intro pins s σ H xs us Q I r ⟨x, d, ex, dp, ok, q⟩
  subst ex
  obtain ⟨u, rfl, ru⟩ := r.one
  have refs : ∀ {a : Addr} {e : PyData}, x = .ref a → d = e → rT e = e.shown → wpAny (model X.prog X.w) X.A (call (.builtin "repr") [u]) (EP X pins σ Q) X.xe s := fun {a e} ex ed et => by
    subst ex ed
    obtain ⟨as, rd⟩ := dp.reads I d _ u ru
    cases ru
    have dpt := ok.dp
    have ln := ok.len
    rw [et] at ln
    refine repr_of_reads' (h₀ := s.heap) rd ok.sh (fun z => by rw [ok.nd] at z; cases z) gu (by omega) (fun _ _ z => z) (fun h' t tk k => ?_) ln
    exact ⟨.str (rT d), H, I.kept (t' := tk) k, ⟨t, by rw [et]⟩, q⟩
  cases dp with
  | non =>
    cases ru
    exact P.repr_of_none ⟨.str "None", H, I.tok _, ⟨_, rfl⟩, q⟩
  | bl b =>
    cases ru
    exact P.repr_of_bool ⟨.str _, H, I.tok _, ⟨_, rfl⟩, q⟩
  | int i =>
    obtain ⟨t, rfl⟩ := ru
    exact P.repr_of_int (ok.int i rfl) ⟨.str _, H, I.tok _, ⟨_, rfl⟩, q⟩
  | str z =>
    obtain ⟨t, rfl⟩ := ru
    exact P.repr_of_str ⟨.str _, H, I.tok _, ⟨_, rfl⟩, q⟩ ok.len
  | lst h1 h2 => exact refs rfl rfl rfl
  | tup h1 h2 => exact refs rfl rfl rfl
theorem room70 {k : Nat} {A : Around} (r : Room k A) : A.units + 70 < cLine := by have := r.un; omega
/-- the end: a law without lambdas whose promise is told where no repr is under way -/
theorem law_end2 {P : Program} {w : World} {K : PySem.W.Frag} {mg mb : Str → Option Value} {k : Nat} {fa a : Addr} {fd : FuncData} {x : Str} {sp : SpG} {s : Shared} {vs : List Value} {ns : List Int}
    (kin : K.In s.heap) (glob : s.heap.Ns mainGlobals mg) (bltn : s.heap.Ns builtinsNs mb) (boot : ∀ x : Str, x ≠ "__name__" → mb x = bootBuiltins x) (lim : s.heap.NoLimit) (gens : s.gens = #[])
    (scr : s.heap.get? a = some { cls := .type "list", data := .seq vs.toArray }) (isI : IntsAre vs ns) (fits : ns.length ≤ sizeLine) (hr : Room k callerA)
    (F : ∀ base : Heap, K.In base → base.Ns mainGlobals mg → FnG P w K mg base k fa fd [x] sp)
    (told : ∀ H : Hp, SqL K H a (ns.map V.int) → sp [.ref a] H (fun v _ => v = .bl true)) :
    codeAny (model P w) callerA (.call (.ref fa) ⟨[.ref a], []⟩) (fun r s' => r = .ok (.ret (.bool true)) ∧ OldK s.heap s'.heap ∧ s'.os = s.os ∧ AllBare s'.gens) s := by
  have rv := vals_ints isI
  have vl := isI.length
  have go : ∀ H : Hp, (∀ b, H b = none ∨ (b = a ∧ K.lookup a = none ∧ ∃ o ys, H b = some (.frz o (.lst ys)))) → SqL K H a (ns.map V.int) → HOk P w H s.heap →
      codeAny (model P w) callerA (.call (.ref fa) ⟨[.ref a], []⟩) (fun r s' => r = .ok (.ret (.bool true)) ∧ OldK s.heap s'.heap ∧ s'.os = s.os ∧ AllBare s'.gens) s := by
    intro H other sq hok
    have names : ∀ {b : Addr} {m : Str → Option Value}, s.heap.Ns b m → (hidT s.heap H).Ns b m := fun {b m} ⟨o, es, ep, e, d, r⟩ => by
      refine ⟨o, es, ep, hidT_get e ?_, d, r⟩
      rcases other b with q | ⟨q, _⟩
      · exact q
      · rw [q, scr] at e
        cases e
        cases d
    have bin : K.In (hidT s.heap H) := fun b o e => hidT_get (kin b o e) (by
      rcases other b with q | ⟨q, q2, _⟩
      · exact q
      · rw [q, q2] at e
        cases e)
    have md : L2.Mod K mg (hidT s.heap H) := ⟨bin, names glob, ⟨mb, names bltn, boot⟩, let ⟨mc, h1, h2⟩ := lim; ⟨mc, names h1, h2⟩⟩
    have e0 : Env0 P w K mg (hidT s.heap H) callerA [] s H := ⟨rfl, md, fun b o e => of_hidT e, Nat.le_of_eq (hidT_size _ _), trivial, fun b hb => absurd (show b ∈ ([] : List Addr) from hb) (by simp), hok, .of_eq gens⟩
    refine codeAny_mono ((F _ bin (names glob)).run callerA [] s H [.ref a] [.ref a] _ rfl hr e0 (.cons rfl .nil) (told H sq)) fun r s' h => ?_
    match r, h with
    | .error e, h => exact (show False from h).elim
    | .ok .next, h => exact False.elim h
    | .ok .brk, h => exact False.elim h
    | .ok .cont, h => exact False.elim h
    | .ok (.ret u), h =>
      obtain ⟨v, H', os, bare, un, hok', rv', q⟩ := h
      have q : v = .bl true := q
      subst q
      obtain rfl : u = Value.bool true := rv'
      have stay : ∀ b o, s.heap.get? b = some o → s'.heap.get? b = some o := fun b o e => by
        rcases other b with q | ⟨_, _, o2, ys, q⟩
        · exact un.keep b o e q (fun z => nomatch (show b ∈ ([] : List Addr) from z)) (by simp)
        · obtain ⟨e1, _⟩ := hok b _ q
          obtain ⟨e2, _⟩ := hok' b _ (un.frzs b o2 _ q)
          rw [e] at e1
          cases e1
          exact e2
      exact ⟨rfl, ⟨fun b o e => .inl (stay b o e), fun b o e => ⟨o, stay b o e⟩⟩, os, bare⟩
  cases hk : K.lookup a with
  | some o =>
    have e := kin a o hk
    rw [scr] at e
    cases e
    exact go (fun _ => none) (fun b => .inl rfl) (.inr ⟨_, vs.toArray, _, hk, rfl, rfl, rfl, by rw [List.size_toArray, vl]; exact fits, by simpa using rv⟩) (fun b u z => nomatch z)
  | none =>
    refine go (fun b => if b = a then some (.frz { cls := .type "list", data := .seq vs.toArray } (.lst (ns.map V.int))) else none) (fun b => ?_) (.inl (.inr ⟨{ cls := .type "list", data := .seq vs.toArray }, if_pos rfl⟩)) (fun b u z => ?_)
    · by_cases hb : b = a
      · exact .inr ⟨hb, hk, _, _, if_pos hb⟩
      · exact .inl (if_neg hb)
    · by_cases hb : b = a
      · have z2 := (if_pos hb).symm.trans z
        cases z2
        rw [hb]
        exact ⟨scr, by rw [List.length_map]; exact fits, vs, _, rv, scr⟩
      · have z2 := (if_neg hb).symm.trans z
        cases z2
theorem walk_end2 {l : PySem.W.OpenLaw} {n k : Nat} {q : Program} {loose : List Str} {XP : (Str → Option Value) → Heap → Prop} {YP : World → Heap → Prop} {d : DefRec} {x : Str}
    (hn : l.most = some n) (hn2 : n ≤ sizeLine) (hdf : d.params.defaults = []) (hr : Room k callerA)
    (F : ∀ (w : World) (mg : Str → Option Value) (fa : Addr) (h : Heap), YP w h → h.Ns mainGlobals mg → mg d.name = some (.ref fa) → ∃ (K : PySem.W.Frag) (fd : FuncData) (sp : SpG), K.In h ∧
      (∀ (H : Hp) (a : Addr) (ns : List Int), ns.length ≤ n → SqL K H a (ns.map V.int) → sp [.ref a] H (fun v _ => v = .bl true)) ∧
      ∀ base : Heap, K.In base → base.Ns mainGlobals mg → FnG l.prog w K mg base k fa fd [x] sp) :
    PySem.W.WalkO q loose XP YP l.row.toRowW d [] (fun f vs => PySem.call f vs) := by
  refine Att.attach_callB hn hdf fun w s₀ s₁ mg mb fa o pm cd doc a vs ns G Y ho hd hcd hmg hobj hints hlen hbits hg => ?_
  obtain ⟨K, fd, sp, KX, hsp, hF⟩ := F w mg fa _ Y G.T.g hmg
  exact law_end2 KX G.T.g G.T.b G.T.builtins G.T.nolimit hg hobj hints (Nat.le_trans hlen hn2) hr hF fun H h => hsp H a ns hlen h
/-- repr of data without numbers, not too heavy -/
theorem rep_of {d : PyData} (l : Lay 20 d) (sh : d.showable = true) (short : d.intsShort 13 = true) (wt : d.weight ≤ 2 ^ 20) (ni : ∀ i, d ≠ .int i) (e : rT d = d.shown) : RepOk d := by
  refine ⟨sh, PyData.hasDict_of_canLay d l.1, Nat.le_trans l.2 (by decide), ?_, fun i e => absurd e (ni i)⟩
  rw [e]
  have q : PyData.layable0 d = true := by
    unfold PyData.layable0
    rw [Bool.and_eq_true, Bool.and_eq_true]
    exact ⟨⟨l.1, decide_eq_true (Nat.le_trans l.2 (by decide))⟩, decide_eq_true wt⟩
  have := PyProof.Rows.shown_le13 q short
  rw [sizeLine_eq]
  omega
theorem show_strs : ∀ zs : List Str, PyData.showableAll (zs.map PyData.str) = true ∧ PyData.intsShortAll 13 (zs.map PyData.str) = true
  | [] => ⟨by simp [PyData.showableAll], by simp [PyData.intsShortAll]⟩
  | z :: zs => by
    obtain ⟨h1, h2⟩ := show_strs zs
    exact ⟨by simp [PyData.showableAll, PyData.showable, h1], by simp [PyData.intsShortAll, PyData.intsShort, h2]⟩
theorem weigh_strs {m : Nat} : ∀ {zs : List Str}, (∀ z ∈ zs, z.length ≤ m) → PyData.weightAll (zs.map PyData.str) ≤ (m + 1) * zs.length
  | [], _ => by simp [PyData.weightAll]
  | z :: zs, h => by
    have ih := weigh_strs (zs := zs) fun y hy => h y (List.mem_cons_of_mem _ hy)
    have hz : z.cps.size ≤ m := h z List.mem_cons_self
    simp only [List.map_cons, PyData.weightAll, PyData.weight, List.length_cons, Nat.mul_add, Nat.mul_one]
    omega
end Rt
end
section
set_option Elab.async false
set_option linter.all false
set_option maxRecDepth 100000
set_option maxHeartbeats 8000000
/-! the law -/
namespace Rt
open PySem PySem.Spec PyProof.Rows L2
theorem row_sub {ns : List Str} {row : List (List Str)} (nd : ns.Nodup) (h : row ∈ allW ns ns) : ∀ z ∈ ns, (lk ns row z).Sublist (othersB ns z) := fun z hz => by
  obtain ⟨hl, hs⟩ := mem_allW.mp h
  obtain ⟨i, hi⟩ := List.getElem?_of_mem hz
  have il : i < row.length := by rw [hl]; exact (List.getElem?_eq_some_iff.mp hi).1
  have hb : row[i]? = some row[i] := List.getElem?_eq_getElem il
  rw [lk_at nd hi hb]
  exact hs i z _ hi hb
theorem allW_pos {ns : List Str} : 0 < (allW ns ns).length := by
  refine List.length_pos_of_mem (mem_allW (r := ns.map fun _ => []).mpr ⟨List.length_map _, fun i z b hz hb => ?_⟩)
  rw [List.getElem?_map, hz] at hb
  cases hb
  exact List.nil_sublist _
theorem WDt.aft {H H' : Hp} {p : Addr} {zs : List Str} {x : V} {row : List (List Str)} (h : WDt H zs x row) (hp : PoolAt H p) (a : Aft p H H') : WDt H' zs x row := by
  obtain ⟨d, kvs, e, h1, h2, h3⟩ := h
  have dp : d ≠ p := by
    obtain ⟨x, y, hpp, _⟩ := hp
    exact ne_of h1 hpp (by intro z; cases z)
  exact ⟨d, kvs, e, a.keep _ _ dp h1, h2, pairedG_mono (fun kv b q => bt_mono _ _ _ _ (a.tk hp) q) h3⟩
theorem WDt.wt {P : Program} {w : World} {K : PySem.W.Frag} {H : Hp} {ns : List Str} {x : V} {row : List (List Str)} (h : WDt H ns x row) (l : ∀ z ∈ ns, (lk ns row z).length ≤ 60) : WtV P w K H ns x (awa ns fun z => some ((lk ns row z).map V.str)) fun z => some ((lk ns row z).map V.str) := by
  obtain ⟨d, kvs, rfl, h1, h2, h3⟩ := h
  refine .dw ⟨kvs, h1, h2, fun z hz => ?_⟩
  obtain ⟨v, q1, t, rfl, ht⟩ := valV_row h2 h3 z hz
  exact ⟨_, q1, ov_tup ht (l z hz)⟩
def spLaw (K : PySem.W.Frag) : SpG := fun vs H Q => ∃ (a : Addr) (ns : List Int), vs = [.ref a] ∧ SqL K H a (ns.map V.int) ∧ ∀ H', Q (.bl true) H'
section
variable {P : Program} {w : World} {K : PySem.W.Frag} {mg : Str → Option Value} {base : Heap}
theorem fn_law (Z : All K mg) : ∃ fd, FnG P w K mg base 9 (He.ga K "law") fd ["_law_script"] (spLaw K) ∧ Binds K fd ["_law_script"] [] := by
  obtain ⟨fd, F⟩ := Z.f_law
  have C_law_pool : Cal P w K mg base CX0 1 "_law_pool" ["_law_script", "_law_k"] (spPool K) := cal_law_pool Z
  have C_law_take : Cal P w K mg base CX0 1 "_law_take" ["_law_pool_here", "_law_bound"] spTake := cal_law_take Z
  have C_law_one : Cal P w K mg base CX0 2 "_law_one" ["_law_pool_here", "_law_things"] (spLone K) := cal_law_one Z
  have C_law_told_names : Cal P w K mg base CX0 3 "_law_told_names" ["_law_pool_here", "_law_top"] spTNames := cal_law_told_names Z
  have C_law_answers : Cal P w K mg base CX0 3 "_law_answers" ["_law_pool_here", "_law_names", "_law_many"] (spAnswers K) := cal_law_answers Z
  have C_law_all_wants : Cal P w K mg base CX0 2 "_law_all_wants" ["_law_names"] spAllW := cal_law_all_wants Z
  have C_law_right : Cal P w K mg base CX0 1 "_law_right" ["_law_wants", "_law_seen"] (spRight K) := cal_law_right Z
  have C_law_bent : Cal P w K mg base CX0 3 "_law_bent" ["_law_pool_here", "_law_names", "_law_wants"] (spBent P w K) := cal_law_bent Z
  have C_explains : Cal P w K mg base CX0 7 "explains" ["names", "wants", "seen"] (spWhy P w K) := cal_explains Z
  have C_greatest_wants : Cal P w K mg base CX0 8 "greatest_wants" ["names", "seen"] (spGreat K) := cal_greatest_wants Z
  have bF : Binds K fd ["_law_script"] [] := F.bindsN (fun _ _ _ _ _ _ us hl => match us, hl with | [_], _ => rfl)
  refine ⟨fd, FnG.of F sc_law bF (fun vs H Q h => ?_) (fun cdv A outer s H vs Q hcd gu0 hr h => ?_), bF⟩
  · obtain ⟨a, ns, rfl, _⟩ := h
    rfl
  · obtain ⟨a, ns, rfl, ha, k⟩ := h
    have gu : (A.deeper (envOfC "law" (defScope s_law) s.heap.objs.size (He.ga K "law") cdv)).guards = some [] := gu0
    refine ⟨_, (pss_cons (ps_for PassesOwn.never rfl (pi_range1 (by rfl) Z.b_range (pa_cons (pe_callB (call_max2 rfl) (by rfl) Z.b_max PyProof.Rows.boot_max (pa_cons pe_int (pa_cons (pe_callB (call_min2 rfl) (by rfl) Z.b_min PyProof.Rows.boot_min (pa_cons pe_int (pa_cons (pe_callB call_len (by rfl) Z.b_len PySem.boot_len (pa_cons (pv 0) pa_nil)) pa_nil))) pa_nil))) pa_nil)) (pg_name (i := 1) sc_law.nd rfl (Or.inl rfl)) (pss_cons (ps_set (i := 2) sc_law.nd rfl (Or.inl rfl) (pe_cal C_law_pool (hr.mono (by decide)) (by rfl) pass0 (pa_cons (pv 0) (pa_cons (pv 1) pa_nil))))
      (pss_cons (ps_set (i := 3) sc_law.nd rfl (Or.inl rfl) (pe_cal C_law_told_names (hr.mono (by decide)) (by rfl) pass0 (pa_cons (pv 2) (pa_cons pe_int pa_nil))))
      (pss_cons (ps_set (i := 4) sc_law.nd rfl (Or.inr rfl) (pe_cal C_law_answers (hr.mono (by decide)) (by rfl) pass0 (pa_cons (pv 2) (pa_cons (pv 3) (pa_cons (pe_cal C_law_take (hr.mono (by decide)) (by rfl) pass0 (pa_cons (pv 2) (pa_cons pe_int pa_nil))) pa_nil)))))
      (pss_cons (ps_set (i := 5) sc_law.nd rfl (Or.inl rfl) (pe_cal C_law_all_wants (hr.mono (by decide)) (by rfl) pass0 (pa_cons (pv 3) pa_nil)))
      (pss_cons (ps_for PassesOwn.never rfl (pi_seq (pv 5)) (pg_name (i := 6) sc_law.nd rfl (Or.inl rfl)) (pss_one (ps_if (pt_cmpR op_ne (pe_cal C_explains (hr.mono (by decide)) (by rfl) pass0 (pa_cons (pv 3) (pa_cons (pv 6) (pa_cons (pv 4) pa_nil)))) (pe_cal C_law_right (hr.mono (by decide)) (by rfl) pass0 (pa_cons (pv 6) (pa_cons (pv 4) pa_nil))) (nomark _)) (pss_one (ps_ret pe_bl)) pss_nil)))
      (pss_cons (ps_for PassesOwn.never rfl (pi_seq (pe_cal C_law_bent (hr.mono (by decide)) (by rfl) pass0 (pa_cons (pv 2) (pa_cons (pv 3) (pa_cons (pe_cal C_law_one (hr.mono (by decide)) (by rfl) pass0 (pa_cons (pv 2) (pa_cons (pv 5) pa_nil))) pa_nil))))) (pg_name (i := 7) sc_law.nd rfl (Or.inl rfl)) (pss_one (ps_if (PW.pt (pw_or (pt_val (pe_cal C_explains (hr.mono (by decide)) (by rfl) pass0 (pa_cons (pv 3) (pa_cons (pv 7) (pa_cons (pv 4) pa_nil))))) (pw_or1 (pt_val (pe_cal C_explains (hr.mono (by decide)) (by rfl) pass0 (pa_cons (pv 3) (pa_cons (pv 7) (pa_cons (pe_tup pa_nil) pa_nil)))))))) (pss_one (ps_ret pe_bl)) pss_nil)))
      (pss_cons (ps_set (i := 8) sc_law.nd rfl (Or.inl rfl) (pe_cal C_greatest_wants (hr.mono (by decide)) (by rfl) pass0 (pa_cons (pv 3) (pa_cons (pv 4) pa_nil))))
      (pss_cons (ps_if (pt_cmpR op_ne (pe_cmpR op_isN (pv 8) pe_non (nomark _)) (pe_cmpR (show OpR _ (compareOp .Eq) (rEqNil K) from op_eqNil hr.units) (pe_lc (own := [("_law_wants", 6)]) (by rfl) sc_law.nd (pi_seq (pv 5)) (blkOk_by (own := [("_law_wants", 6)]) (N := ["_law_script", "_law_k", "_law_pool_here", "_law_names", "_law_seen", "_law_rows", "_law_wants", "_law_odd", "_law_told"]) (sc := defScope s_law) (by decide +kernel)) (fun _ _ _ _ _ => (pg_name (i := 6) sc_law.nd rfl (Or.inl rfl))) (fun _ _ _ _ _ => (pts_one (pt_val (pe_cal C_law_right (hr.mono (by decide)) (by rfl) pass0 (pa_cons (pv 6) (pa_cons (pv 4) pa_nil)))))) (fun _ _ _ _ _ => (pv 6))) (pe_lst pa_nil) (nomark _)) (nomark _)) (pss_one (ps_ret pe_bl)) pss_nil)
      (pss_one (ps_if (PW.pt (pw_and (pt_cmpR op_notN (pv 8) pe_non (nomark _)) (pw_and1 (pt_not (pt_val (pe_cal C_explains (hr.mono (by decide)) (by rfl) pass0 (pa_cons (pv 3) (pa_cons (pv 8) (pa_cons (pv 4) pa_nil))))))))) (pss_one (ps_ret pe_bl)) pss_nil)))))))))))
      (pss_one (ps_ret pe_bl))), ?_⟩
    refine for_rng_by (fun n H' => 0 ≤ n ∧ n ≤ 10 ∧ H' = H) (fun Q kQ => ?_) ?_
    · refine ⟨_, rfl, _, (ns.map V.int).length, rfl, .inl ⟨_, ha, rfl⟩, _, _, rfl, _, _, rfl, kQ _ _ ⟨?_, ?_, rfl⟩⟩
      · split <;> split <;> omega
      · split <;> split <;> omega
    rintro n H' ⟨n0, n1, rfl⟩
    refine ⟨by omega, by omega, fun i σ G => ∃ s1 s2 s3 s4 s5 s6 s7 s8 : Option V, σ = [some (.ref a), s1, s2, s3, s4, s5, s6, s7, s8] ∧ Same H' G, ⟨none, none, none, none, none, none, none, none, rfl, Same.refl _⟩, ?_, ?_⟩
    · rintro i σ G0 hi ⟨s1, s2, s3, s4, s5, s6, s7, s8, rfl, e0⟩
      have ha0 := e0.seq ha
      -- the pool, the names, the answers, all wants
      refine ⟨_, rfl, _, rfl, a, ns, _, rfl, ha0, by omega, by omega, fun p G1 np s01 pool1 => ?_⟩
      refine ⟨_, rfl, p, 3, rfl, pool1, by decide, by decide, fun na nms G2 fna a2 hna2 nt l3 => ?_⟩
      obtain ⟨nm, _⟩ := nt.nm
      refine ⟨_, rfl, _, rfl, _, rfl, p, 7, rfl, a2.pool, by decide, by decide, fun m G3 m0 m1 a3 => ?_⟩
      have nap : na ≠ p := pool1.ne fna
      have hna3 := a3.keep _ _ nap hna2
      refine ⟨p, na, nms, m, rfl, a3.pool, hna3, nt, m0, by omega, fun sa xs as G4 fsa a4 hsa4 ps4 okA la => ?_⟩
      have hna4 := a4.keep _ _ nap hna3
      have l3 : nms.length ≤ 3 := by omega
      refine ⟨_, rfl, na, nms, rfl, hna4, nm.nd, l3, fun ro xr G5 fro s45 hro pr => ?_⟩
      have hna := s45 _ _ hna4
      have hsa := s45 _ _ hsa4
      have sap : sa ≠ p := a3.pool.ne fsa
      have rop : ro ≠ p := a4.pool.ne fro
      have ps : Paired (AnT G5) xs as := paired_mono (fun x w q => ant_mono _ _ _ _ (Tk.of s45) q) ps4
      have aft : Aft p G1 G5 := ((a2.trans a3).trans a4).same s45
      have s05 : ∀ {G}, Aft p G5 G → Same G0 G := fun {G} a b o h => a.keep b o (ne_of_none h np) (aft.keep b o (ne_of_none h np) (s01 b o h))
      have td : Told K G5 na nms sa as := ⟨.tup hna, nm, ⟨xs, .lst hsa, ps⟩, okA, by omega⟩
      have pool5 := aft.pool
      clear a2 a3 a4 s01 pool1 hna2 hna3 hna4 fna fsa np hsa4 ps4 s45 aft fro m0 m1
      obtain ⟨rows, erows⟩ : ∃ rows, rows = allW nms nms := ⟨_, rfl⟩
      rw [← erows] at pr
      have lrows : rows.length ≤ 64 := by
        have q := allW_len l3 nms.length (Nat.le_refl _)
        rw [List.take_length, ← erows] at q
        have : 4 ^ nms.length ≤ 4 ^ 3 := Nat.pow_le_pow_right (by decide) l3
        omega
      have prow : 0 < rows.length := by rw [erows]; exact allW_pos
      have lxr : xr.length = rows.length := Paired.length pr
      have sub : ∀ row ∈ rows, ∀ z ∈ nms, (lk nms row z).Sublist (othersB nms z) := fun row hr => row_sub nm.nd (by rw [← erows]; exact hr)
      have sub2 : ∀ row ∈ rows, ∀ z ∈ nms, (lk nms row z).Sublist nms := fun row hr z hz => (sub row hr z hz).trans (others_sub nms z)
      have own : ∀ row ∈ rows, ∀ z ∈ nms, (lk nms row z).Sublist nms ∧ z ∉ lk nms row z := fun row hr z hz => ⟨sub2 row hr z hz, fun q => (mem_others.mp ((sub row hr z hz).subset q)).2 rfl⟩
      have l60 : ∀ row ∈ rows, ∀ z ∈ nms, (lk nms row z).length ≤ 60 := fun row hr z hz => by
        have := (sub2 row hr z hz).length_le
        omega
      have skl : ∀ a ∈ as, a.skill ∈ nms := fun a h => (okA a h).skill
      have whyE : ∀ row ∈ rows, whyB (awa nms fun z => some ((lk nms row z).map V.str)) nms (fun z => some ((lk nms row z).map V.str)) as = rightB (lk nms row) as := fun row hr => by
        rw [why_of nm.nd (own row hr)]
        exact right_iff skl
      -- all wants
      refine ⟨_, rfl, ro, rfl, .inl ⟨⟨_, SqL.of hro⟩, ?_⟩⟩
      refine for_list (K := K) (a := ro) (xs := xr) (fun j σ Gh => ∃ (u1 u6 u7 u8 : Option V), σ = [some (.ref a), u1, some (.ref p), some (.ref na), some (.ref sa), some (.ref ro), u6, u7, u8] ∧ Same G5 Gh)
        ⟨_, _, _, _, rfl, Same.refl _⟩ (fun j σ Gh _ ⟨_, _, _, _, _, s⟩ => SqL.of (s _ _ hro)) ?_ ?_
      · rintro j y σ Gh hj ⟨u1, u6, u7, u8, rfl, sh⟩
        obtain ⟨row, hrow, wd⟩ := paired_at pr hj
        have inr := List.mem_of_getElem? hrow
        have wdh := wd.same sh
        refine ⟨_, rfl, _, rfl, _, rfl, na, y, sa, nms, _, _, as, rfl, td.same sh, wdh.wt (l60 row inr), fun G6 s6 => ?_⟩
        rw [whyE row inr]
        have sh6 := sh.trans s6
        refine ⟨_, rfl, _, rfl, y, sa, nms, row, xs, as, rfl, wd.same sh6, by omega, nm.oks, sub2 row inr, SqL.of (sh6 _ _ hsa), paired_mono (fun x w q => ant_mono _ _ _ _ (Tk.of sh6) q) ps, okA, fun G7 s7 => ?_⟩
        refine ⟨rfl, _, rfl, ifF (by rw [decide_eq_true rfl]; rfl) ?_⟩
        exact ⟨_, _, _, _, rfl, sh6.trans s7⟩
      rintro σ Ga ⟨u1, u6, u7, u8, rfl, sa5⟩
      -- bent ones
      have poolA := pool5.same sa5
      refine ⟨_, rfl, _, rfl, _, rfl, _, rfl, p, ro, xr, rfl, poolA, .inl (SqL.of (sa5 _ _ hro)), rop, by omega, by omega, fun x Gb hx a6 => ?_⟩
      obtain ⟨row, hrow, wd⟩ := paired_mem pr hx
      have wdb := (wd.same sa5).aft poolA a6
      refine ⟨p, na, x, nms, row, rfl, a6.pool, a6.keep _ _ nap (sa5 _ _ hna), nt, l3, wdb, sub row hrow, fun f ys Gc ff a7 hf bad => ⟨f, rfl, .inl ⟨⟨_, SqL.of hf⟩, ?_⟩⟩⟩
      have a57 : Aft p G5 Gc := ⟨a7.pool, fun b o n h => a7.keep b o n (a6.keep b o n (sa5 b o h))⟩
      have hnaC := a57.keep _ _ nap hna
      have hsaC := a57.keep _ _ sap hsa
      have hroC := a57.keep _ _ rop hro
      have psC : Paired (AnT Gc) xs as := paired_mono (fun x w q => ant_mono _ _ _ _ (a57.tk pool5) q) ps
      have prC : Paired (WDt Gc nms) xr rows := paired_mono (fun x w q => q.aft pool5 a57) pr
      have tdC : Told K Gc na nms sa as := ⟨.tup hnaC, nm, ⟨xs, .lst hsaC, psC⟩, okA, by omega⟩
      have s0C : Same G0 Gc := s05 a57
      have sHC := e0.trans s0C
      clear a57 a6 a7 wdb poolA sa5 td ps pr hna hsa hro pool5 s0C s05 e0 ff hx hrow wd ha0
      refine for_list (K := K) (a := f) (xs := ys) (fun j σ Gh => ∃ (u1 u6 u7 u8 : Option V), σ = [some (.ref a), u1, some (.ref p), some (.ref na), some (.ref sa), some (.ref ro), u6, u7, u8] ∧ Same Gc Gh)
        ⟨_, _, _, _, rfl, Same.refl _⟩ (fun j σ Gh _ ⟨_, _, _, _, _, s⟩ => SqL.of (s _ _ hf)) ?_ ?_
      · rintro j y σ Gh hj ⟨u1, u6, u7, u8, rfl, sh⟩
        obtain ⟨mm, wt⟩ := bad y (List.mem_of_getElem? hj)
        refine ⟨_, rfl, _, rfl, _, rfl, na, y, sa, nms, false, mm, as, rfl, tdC.same sh, wt.same sh, fun G6 s6 => ?_⟩
        have sh6 := sh.trans s6
        refine ⟨_, rfl, ifF rfl ?_⟩
        refine ⟨_, rfl, _, rfl, (by show 0 ≤ sizeLine; decide), fun tp ntp => ?_⟩
        have s67 := Same.new (o := .tup []) ntp
        refine ⟨na, y, tp, nms, false, mm, [], rfl, ⟨.tup (s67 _ _ (sh6 _ _ hnaC)), nm, ⟨[], .tup upd_same, .nil⟩, fun a h => (nomatch h), Nat.zero_le _⟩, wt.same (sh6.trans s67), fun G7 s7 => ⟨_, rfl, ifF rfl ?_⟩⟩
        exact ⟨_, _, _, _, rfl, (sh6.trans s67).trans s7⟩
      rintro σ Gd ⟨u1, u6, u7, u8, rfl, sd⟩
      -- the greatest
      refine ⟨_, rfl, _, rfl, na, sa, nms, as, rfl, tdC.same sd, fun v Ge se gr => ?_⟩
      have sE := sd.trans se
      have tdE := tdC.same sE
      have hsaE := sE _ _ hsaC
      have psE : Paired (AnT Ge) xs as := paired_mono (fun x w q => ant_mono _ _ _ _ (Tk.of sE) q) psC
      have prE := wdts_same prC sE
      have hroE := sE _ _ hroC
      have sHE := sHC.trans sE
      refine ⟨_, rfl, rfl, _, rfl, ro, rfl, lc_new (.inl (SqL.of hroE)) (fun _ _ _ => True) (fun j => ((rows.take j).filter fun row => rightB (lk nms row) as).map fun _ => ()) rfl (fun D nD j y Hy hj pp => ?_) fun D Gf zs nD sf hD pD => ?_⟩
      · obtain ⟨row, hrow, wd⟩ := paired_at prE hj
        have inr := List.mem_of_getElem? hrow
        have sy := pp.same
        refine ⟨rfl, _, rfl, _, rfl, y, sa, nms, row, xs, as, rfl, wd.same sy, by omega, nm.oks, sub2 row inr, SqL.of (sy _ _ hsaE), paired_mono (fun x w q => ant_mono _ _ _ _ (Tk.of sy) q) psE, okA, fun G7 s7 => ?_⟩
        refine ⟨_, rfl, ifB (fun e => ⟨_, rfl, (pp.ext (fun _ _ _ _ _ _ => trivial) s7).put (fun _ _ _ _ _ _ => trivial) nD trivial (filt_one (fun _ => ()) _ hrow e) (line_of (m := 64) ?_ (by decide))⟩) (fun e => (pp.ext (fun _ _ _ _ _ _ => trivial) s7).skip (filt_no (fun _ => ()) _ hrow e))⟩
        rw [List.length_map]
        exact Nat.le_trans (List.length_filter_le _ _) (Nat.le_trans (List.length_take_le' _ _) (by omega))
      rw [lxr, List.take_length] at pD
      have ez : zs.isEmpty = !allB nms as := by
        rw [emp_same ((Paired.length pD).trans (List.length_map _)), erows]
        exact none_right nm.nd skl
      refine ⟨(by show 0 ≤ sizeLine; decide), fun e0 ne0 => ⟨D, _, e0, rfl, rfl, SqL.of (Same.new ne0 _ _ hD), SqL.of upd_same, ?_⟩⟩
      rw [ez]
      have sg : Same Ge (upd Gf e0 (.lst [])) := sf.trans (Same.new ne0)
      have tdG := tdE.same sg
      have sHG := sHE.trans sg
      obtain ⟨Gg, eGg⟩ : ∃ Gg, Gg = upd Gf e0 (.lst []) := ⟨_, rfl⟩
      rw [← eGg] at sg tdG sHG ⊢
      clear eGg ne0 hD nD sf pD
      cases ab : allB nms as with
      | true =>
        obtain ⟨d, rfl, dm⟩ := gr.1 ab
        refine ⟨rfl, _, rfl, ifF rfl ?_⟩
        have own2 : ∀ z ∈ nms, (mostW nms as z).Sublist nms ∧ z ∉ mostW nms as z := fun z _ => most_ok nms as z
        refine ⟨_, rfl, rfl, _, rfl, ?_⟩
        refine ⟨_, rfl, _, rfl, _, rfl, na, .ref d, sa, nms, _, _, as, rfl, tdG, .dw ((dm.same sg).dw fun z hz => ?_), fun G8 s8 => ?_⟩
        · have := (own2 z hz).1.length_le
          omega
        rw [why_of nm.nd own2]
        have q : (nms.all fun z => explB (mostW nms as z) as z) = true := ab
        rw [q]
        refine ⟨_, rfl, ifF rfl ?_⟩
        exact ⟨_, _, _, _, _, _, _, _, rfl, sHG.trans s8⟩
      | false =>
        have e := gr.2 ab
        subst e
        refine ⟨rfl, _, rfl, ifF rfl ?_⟩
        refine ⟨_, rfl, rfl, _, rfl, ?_⟩
        exact ⟨_, _, _, _, _, _, _, _, rfl, sHG⟩
    · rintro σ G ⟨s1, s2, s3, s4, s5, s6, s7, s8, rfl, e0⟩
      exact k G
end
end Rt
end
section
set_option Elab.async false
set_option linter.all false
set_option maxRecDepth 100000
set_option maxHeartbeats 0
namespace Rt
open PySem PySem.Spec PyProof.Rows L2
abbrev R : PySem.W.OpenRow := PySem.W.OpenLaw.row PySem.Challenge.rw_refundtrees_k71_whole_wants_that_explain
abbrev hk : PySem.W.Hook := He.hookD 5 fa fn
def ob (s : PySem.W.SharedT) : He.AlD := He.obsDG 5 fa fn (HandSHeadRun.getT s)
theorem ob_eq (s : PySem.W.SharedT) : ob s = hk.obs s.abs := He.obsDG_eq (HandSHeadRun.getT_eq s)
def names1 : List Str := ["TreeError", "NoSkill", "NoSeen", "SMALL_LETTERS", "LONGEST_WORD", "is_word", "is_one_of", "is_ordered", "are_unlike", "MOST_SKILLS", "is_seen", "explains", "greatest_wants", "must_be_names", "must_be_seen", "is_answer", "are_wants_of_all", "is_explained", "most_wanted", "_law_pool", "_law_take", "_law_one", "_law_told_names", "_law_parts", "_law_answers", "_law_all_wants", "_law_right", "_law_bent"]
def names : List Str := names1
theorem run (w : World) : HandSHeadRun.RunEq R (PySem.W.view R.prog [32]) hk ob 6000 names w := by
  intro os
  kernel_rfl
end Rt
end
section
set_option Elab.async false
set_option linter.all false
set_option maxRecDepth 100000
set_option maxHeartbeats 0
/-! the whole: the head by its facts, the law by its walk -/
open PySem PySem.W PySem.Calls PyProof.Rows
theorem PySem.Challenge.cw_refundtrees_k71_whole_wants_that_explain_holds : PySem.Challenge.rw_refundtrees_k71_whole_wants_that_explain.Holds := by
  w_on; o_law
  refine HandSHeadRun.head_any (r := OpenLaw.row PySem.Challenge.rw_refundtrees_k71_whole_wants_that_explain) (q := view (OpenLaw.row PySem.Challenge.rw_refundtrees_k71_whole_wants_that_explain).prog [32]) (H := Rt.hk) (ob := Rt.ob) (M := 6000) (loose := Rt.names) (d := HandSHeadRun.topDef (OpenLaw.row PySem.Challenge.rw_refundtrees_k71_whole_wants_that_explain).prog 32) (kwd := []) Rt.ob_eq
    (by kernel_rfl) (fun s => by kernel_rfl) Rt.run (by kernel_rfl) (by kernel_rfl) (by kernel_rfl) (by rfl) (by first | assumption | decide +kernel) (by decide +kernel) ⟨rfl, rfl, rfl, rfl, rfl, by decide +kernel⟩ ?hw ?hc
  case hw => w_witness2
  case hc =>
    refine Rt.walk_end2 (l := PySem.Challenge.rw_refundtrees_k71_whole_wants_that_explain) (n := 63) (k := 9) (x := "_law_script") rfl (by decide) (by kernel_rfl) ⟨rfl, by decide, by decide⟩ ?F
    intro w mg fa h Y G hmg0
    obtain ⟨K, KX, c⟩ := Y
    have hmg : mg ("law" : PySem.Str) = some (.ref fa) := by
      have e : (HandSHeadRun.topDef (OpenLaw.row PySem.Challenge.rw_refundtrees_k71_whole_wants_that_explain).prog 32).name = ("law" : PySem.Str) := by kernel_rfl
      rw [← e]
      exact hmg0
    have Z : Rt.All K mg := ⟨c, h, KX, G⟩
    have e := hmg.symm.trans Z.g_law
    cases e
    obtain ⟨fd, _⟩ := Z.f_law
    refine ⟨K, fd, Rt.spLaw K, KX, fun H a ns _ hS => ⟨a, ns, rfl, hS, fun _ => rfl⟩, fun base _ _ => ?_⟩
    obtain ⟨fd2, F, _⟩ := Rt.fn_law (P := (PySem.Challenge.rw_refundtrees_k71_whole_wants_that_explain).prog) (w := w) (base := base) Z
    exact ⟨F.len, F.run⟩
end

import PyProof.Rows.All
import Wide.All
import OpenK.AllK
import Wide.FinOn
import HandS.Base
import HandS.Call
import HandS.List
import HandS.Comp
import HandS.Ends
import HandS.Dict
import HandS.Iter
import HandS.Text
import HandS.Words
import HandS.WordsList
import HandS.WordsDict
import HandS.Wide
import HandS.IsInst
import HandS.Codes
import HandS.Property
import HandS.ClsMeth
import HandS.Defaults
import HandS.MakeKw
import HandS.CallLocal
import HandS.CallSlots
import HandS.Exc
import HandS.ExcInit
import HandS.ExcField
import HandS.ExcIs
import HandS.ExcOwn
import HandS.TryOnly
import HandS.WordsExc
import HandS.Gcd
import HandS.FStr
import HandS.StrMore
import HandS.WideBits
import HandS.Style
import HandS.OwnEq
import PySem.Challenge.RW_extralink_k02_ratio_parts
set_option Elab.async false
set_option linter.all false
set_option maxRecDepth 100000
/-! My own rules beside the hand layer's: an item of a list read for a store in place, a text backwards, a call by keywords alone; what is said of lists of ints as data. -/
namespace My
open PySem PySem.Spec PyProof.Rows L2

/-! ### rules -/
section
variable {X : Cx}
def rGetL (K : PySem.W.Frag) : V → V → Hp → VK → Prop := fun x y H Q => ∃ p xs i v, x = .ref p ∧ y = .int i ∧ SqL K H p xs ∧ 0 ≤ i ∧ atI xs i = some v ∧ Q v H
theorem get_list : PGet X (rGetL X.K) := by
  intro pins s σ H o i ov iv Q I ro ri h
  obtain ⟨p, xs, k, z, rfl, rfl, hq, h0, he, q⟩ := h
  cases ro
  obtain ⟨t, rfl⟩ := ri
  obtain ⟨its, r, pl, hz⟩ := I.list hq
  obtain ⟨j, h1, h2, h3, h4, h5⟩ := atI_get he
  obtain ⟨w, ew, rw'⟩ := r.get h2
  have hl := r.length
  have hn := line63
  have hj : k.toNat = j := by
    rw [seqIndex_of h0 h5] at h1
    exact Option.some.inj h1
  exact wpAny_getItem_list pl.isList h0 (by omega) (by rw [hj]; simpa using ew) ⟨z, H, I, rw', q⟩

def revS (z : Str) : Str := ⟨z.cps.reverse⟩
def tRevS (te : TE) : TE := fun σ H Q => te σ H fun x H1 => ∃ z, x = .str z ∧ z.length ≤ sizeLine ∧ Q (.str (revS z)) H1
theorem range_back (n : Nat) : sliceRange ((n : Int) - 1) (-1) (-1) = (List.range n).map fun k => n - 1 - k := by
  unfold sliceRange
  have e : (if (-1 : Int) > 0 then (if ((n : Int) - 1) < -1 then (-1 - ((n : Int) - 1) + -1 - 1) / -1 else 0) else (if ((n : Int) - 1) > -1 then (((n : Int) - 1) - -1 - -1 - 1) / (- -1) else 0)).toNat = n := by
    rw [if_neg (by decide)]
    by_cases h : ((n : Int) - 1) > -1
    · rw [if_pos h, show (- -1 : Int) = 1 by decide, Int.ediv_one]
      omega
    · rw [if_neg h]
      omega
  show List.map (fun (k : Nat) => (((n : Int) - 1) + (-1) * (k : Int)).toNat) (List.range (Int.toNat (if (-1 : Int) > 0 then (if ((n : Int) - 1) < -1 then (-1 - ((n : Int) - 1) + -1 - 1) / -1 else 0) else (if ((n : Int) - 1) > -1 then (((n : Int) - 1) - -1 - -1 - 1) / (- -1) else 0)))) = _
  rw [e]
  refine List.map_congr_left fun k hk => ?_
  have := List.mem_range.mp hk
  omega
theorem filterMap_back (z : Array Nat) : (((List.range z.size).map fun k => z.size - 1 - k).filterMap (z[·]?)) = z.toList.reverse := by
  refine List.ext_getElem? fun i => ?_
  have e : (((List.range z.size).map fun k => z.size - 1 - k).filterMap (z[·]?)) = (List.range z.size).map fun k => z.getD (z.size - 1 - k) 0 := by
    rw [List.filterMap_map]
    have : ∀ l : List Nat, (∀ k ∈ l, k < z.size) → l.filterMap ((fun x => z[x]?) ∘ fun k => z.size - 1 - k) = l.map fun k => z.getD (z.size - 1 - k) 0 := by
      intro l
      induction l with
      | nil => intro _; rfl
      | cons a r ih =>
        intro h
        have ha := h a List.mem_cons_self
        have hb : z.size - 1 - a < z.size := by omega
        rw [List.filterMap_cons]
        have e1 : ((fun x => z[x]?) ∘ fun k => z.size - 1 - k) a = some (z.getD (z.size - 1 - a) 0) := by
          show z[z.size - 1 - a]? = _
          rw [Array.getElem?_eq_getElem hb]
          simp [Array.getD, hb]
        rw [e1, List.map_cons, ih fun k hk => h k (List.mem_cons_of_mem _ hk)]
    exact this _ fun k hk => List.mem_range.mp hk
  rw [e, List.getElem?_map]
  by_cases hi : i < z.size
  · rw [List.getElem?_range hi, List.getElem?_reverse (by simpa using hi)]
    have hb : z.size - 1 - i < z.size := by omega
    simp [Array.getD, hb]
  · rw [List.getElem?_eq_none (by simpa using hi), List.getElem?_eq_none (by simpa using hi)]
    rfl
theorem pe_revS {e : Expr} {te : TE} {k : Nat} {p1 p2 p3 pos : Pos} (he : PE X e te) : PE X (.Subscript e (.Slice none none (some (.UnaryOp .USub (.Constant (.int 1) k p1) p2)) p3) pos) (tRevS te) := by
  refine ⟨fun pins s σ H Q I h => ?_⟩
  refine Subscript_ (thn (he.run pins s σ H _ I h) fun v s1 ⟨x, H1, I1, r1, q1⟩ => ?_)
  obtain ⟨z, ex, hz, q⟩ := q1
  subst ex
  obtain ⟨tz, rfl⟩ := r1
  have hst : PO X (some (.UnaryOp .USub (.Constant (.int 1) k p1) p2)) (tPart (tUn (rU fun i => .int (-i)) (tC (.int 1)))) := po_some (pe_un un_neg pe_int)
  refine wpAny_Slice (thn (po_none.run pins s1 σ H1 (fun o H2 => o = none ∧ H2 = H1) I1 ⟨rfl, rfl⟩) fun vl s2 ⟨l, H2, I2, pl, el, e2⟩ => ?_)
  subst el e2
  refine thn (po_none.run pins s2 σ H2 (fun o H3 => o = none ∧ H3 = H2) I2 ⟨rfl, rfl⟩) fun vu s3 ⟨u, H3, I3, pu, eu, e3⟩ => ?_
  subst eu e3
  refine thn (hst.run pins s3 σ H3 (fun o H4 => o = some (-1) ∧ H4 = H3) I3 ⟨1, rfl, -1, rfl, rfl, rfl⟩) fun vs s4 ⟨o, H4, I4, ps, eo, e4⟩ => ?_
  subst eo e4
  have I5 : Inv X pins σ H4 { s4 with heap := s4.heap.push { cls := .type "slice", data := .fields #[vl, vu, vs] } } := I4.kept (t' := s4.toks) fun b ob q => Heap.get?_push_of_some _ q
  obtain ⟨l, rfl, el⟩ := IsPart.raw pl
  obtain ⟨u, rfl, eu⟩ := IsPart.raw pu
  obtain ⟨st, rfl, est⟩ := IsPart.raw ps
  cases l with
  | some _ => cases el
  | none =>
  cases u with
  | some _ => cases eu
  | none =>
  cases st with
  | none => cases est
  | some st =>
  obtain ⟨k1, tk⟩ := st
  have ek : k1 = -1 := Option.some.inj est
  subst ek
  show wpAny (model X.prog X.w) X.A (subscriptTail e (.Slice none none (some (.UnaryOp .USub (.Constant (.int 1) k p1) p2)) p3) (.str z tz) (.ref s4.heap.objs.size)) (EP X pins σ Q) X.xe { s4 with heap := s4.heap.push { cls := .type "slice", data := .fields #[.none, .none, .int (-1) tk] } }
  refine tail_any (ops := [.ref s4.heap.objs.size, .str z tz]) (typeIs_str _ _ _) F.slot_str_getitem.lookup ?_ (by with_unfolding_all rfl)
  refine wpAny_getItem_str_slice (l := none) (u := none) (st := some (-1, tk)) ⟨_, Heap.get?_push_size _ rfl, rfl, rfl⟩ rfl ?_
  have hp : slicePicked z none none (some (-1, tk)) = (List.range z.cps.size).map fun k => z.cps.size - 1 - k := by
    show Builtin.Str.strSliceIndices none none (-1) z.length = _
    unfold Builtin.Str.strSliceIndices
    exact range_back z.length
  have hr : (⟨((slicePicked z none none (some (-1, tk))).filterMap (z.cps[·]?)).toArray⟩ : Str) = revS z := by
    rw [hp, filterMap_back]
    unfold revS
    congr 1
    apply Array.ext'
    simp
  show Made.post (if ((-1 : Int) == 1 && (slicePicked z none none (some (-1, tk))).length == z.length) = true then Made.val (.str z tz) else Made.str ⟨((slicePicked z none none (some (-1, tk))).filterMap (z.cps[·]?)).toArray⟩) (EP X pins σ Q) _
  rw [if_neg (by rw [show ((-1 : Int) == 1) = false by decide, Bool.false_and]; exact Bool.false_ne_true), hr]
  refine ⟨?_, .str _, H4, I5.tok _, ⟨_, rfl⟩, q⟩
  show (revS z).cps.size ≤ sizeLine
  unfold revS
  rw [Array.size_reverse]
  exact hz

section
variable {CX : CXT} {k : Nat} {f : Addr} {fd : FuncData} {ps ks : List Str} {sp : Sp} {E : XK} {x : Str} {p pos : Pos} {kws : List Keyword} {tk : TA} {g : List Value → List Value → List Value} {gV : List V → List V → List V}
def tCallK0 (sp : Sp) (gV : List V → List V → List V) (E : XK) (tk : TA) : TE := fun σ H Q => tk σ H fun zs H2 => sp (gV [] zs) H2 Q E
/-- f(k = v, ..), nothing by place -/
theorem pe_callK0 (F : FnOk X.prog X.w X.K X.mg X.base CX k f fd ps sp) (hr : Room k X.A) (hg : Gl X x) (hm : X.mg x = some (.ref f)) (hk : PySem.W.keepIn X.K (.ref f) = true) (hb : KBinds X.K fd ps ks g gV) (hx : Passes CX X E)
    (hkw : PK X kws tk) (hall : (backToKw pos (keywordEach kws X.env)).all (·.1.isSome) = true := by rfl) (hks : (backToKw pos (keywordEach kws X.env)).filterMap (·.1) = ks := by rfl)
    (hdb : (x == ("__debug__" : Str)) = false := by decide)
    (hpl : ((backTo pos (starEach [] X.env)).any (·.1) || (backToKw pos (keywordEach kws X.env)).any (·.1.isNone)) = false := by rfl) :
    PE X (.Call (.Name x p) [] kws pos) (tCallK0 sp gV E tk) := by
  refine ⟨fun pins s σ H Q I h => ?_⟩
  refine wpAny_Call_Name_kw (ld_glob I hg hm ?_ hdb)
  refine PySem.W.callWith_KW0 (h₀ := X.base) I.ok.mod.kin hk hall (thn (hkw.run pos pins s σ H _ I h) fun ws s2 ⟨zs, H2, I2, rz, q2⟩ => ⟨I2.kIn, ?_⟩) hpl
  rw [hks]
  exact run_fnk (us := []) (vs := []) F hr hb hx I2 .nil rz q2
end
end

/-- all parameters by keyword, in their order -/
def kAll {α : Type} : List α → List α → List α
  | [], zs => zs
  | _ :: _, _ => []
theorem kbinds_all {K : PySem.W.Frag} {fd : FuncData} {ps ks : List Str} (h0 : 0 < ps.length) (h : ∀ (s : Shared) (ws : List Value), K.In s.heap → ws.length = ps.length → BindsTo s fd ⟨[], ks.zip ws⟩ (ps.zip ws)) : KBinds K fd ps ks kAll kAll where
  to := fun s us ws hK hl => by
    cases us with
    | nil => exact h s ws hK hl
    | cons u r =>
      have z : (0 : Nat) = ps.length := hl
      omega
  rel := fun {vs us zs ws} r rz => by
    cases r with
    | nil => exact rz
    | cons _ _ => exact .nil

/-! ### places -/
theorem at0 {α : Type} {x : α} {xs : List α} : atI (x :: xs) 0 = some x := atI_nat (j := 0) rfl
theorem ix_nat {n j : Nat} (h : j < n) : ixN n (j : Int) = some j := by
  unfold ixN
  rw [if_pos (by omega), if_pos (by omega), Int.toNat_natCast]
theorem ix0 {n : Nat} (h : 0 < n) : ixN n 0 = some 0 := ix_nat h

/-! ### walks over a text -/
theorem lc_str {x : Str} {g : TG} {tt : TT} {te : TE} {vs : List Nat} {σ : L2.St} {H1 : Hp} {D : Addr} {Qd : Hp → Prop} (Pv : Nat → Hp → Prop) (h0 : Pv 0 (upd H1 D (.lst [])))
    (hs : ∀ i c H, x.cps.toList[i]? = some c → Pv i H → g (.str ⟨#[c]⟩) (wipe σ vs) H fun σ2 H2 => wipe σ2 vs = wipe σ vs ∧ tt σ2 H2 fun b H3 =>
      if b = true then te σ2 H3 fun y H4 => ∃ acc, H4 D = some (.lst acc) ∧ acc.length < sizeLine ∧ Pv (i + 1) (upd H4 D (.lst (acc ++ [y]))) else Pv (i + 1) H3) (hd : ∀ H, Pv x.cps.size H → Qd H) :
    ∃ W : Nat → Nat → Hp → Prop, (∃ m, W 0 m (upd H1 D (.lst []))) ∧ ∀ i m H, W i m H →
      ((Its x).stop i H ∧ Qd H) ∨ ((Its x).go i H ∧ ∃ Nx : Hp → Prop, (∀ H', Nx H' → ∃ m', m' < m ∧ W (i + 1) m' H') ∧ ∀ y H', (Its x).yld i H y H' → g y (wipe σ vs) H' fun σ2 H2 => wipe σ2 vs = wipe σ vs ∧ tt σ2 H2 fun b H3 =>
        if b = true then te σ2 H3 fun y H4 => ∃ acc, H4 D = some (.lst acc) ∧ acc.length < sizeLine ∧ Nx (upd H4 D (.lst (acc ++ [y]))) else Nx H3) := by
  refine ⟨fun i m H => m = x.cps.size - i ∧ i ≤ x.cps.size ∧ Pv i H, ⟨_, rfl, Nat.zero_le _, h0⟩, ?_⟩
  rintro i m H ⟨rfl, hi, p⟩
  by_cases hlt : i < x.cps.size
  · refine .inr ⟨hlt, Pv (i + 1), fun H' p' => ⟨x.cps.size - (i + 1), by omega, rfl, hlt, p'⟩, fun y H' q => ?_⟩
    obtain ⟨e, c, hc, ey⟩ := q
    subst e
    subst ey
    exact hs i c _ (by rw [Array.getElem?_toList]; exact hc) p
  · have e : i = x.cps.size := by omega
    subst e
    exact .inl ⟨Nat.le_refl _, hd H p⟩

/-! ### lists of ints, of texts as data -/
theorem dp_ints {K : PySem.W.Frag} {H : Hp} : ∀ ns : List Int, DpAll K H (ns.map V.int) (ns.map PyData.int)
  | [] => .nil
  | n :: r => .cons (.int n) (dp_ints r)
theorem dp_strs {K : PySem.W.Frag} {H : Hp} : ∀ ns : List Str, DpAll K H (ns.map V.str) (ns.map PyData.str)
  | [] => .nil
  | n :: r => .cons (.str n) (dp_strs r)
theorem shaped_ints (ns : List Int) : SeqAt.shaped (.list (ns.map PyData.int)) = true := PySem.W.ke_shaped_ints ns
theorem eqv_nil : PyData.eqv (.list []) (.list []) = true := by simp [PyData.eqv, PyData.eqvAll]
theorem eqv_cons {a : PyData} {r : List PyData} : PyData.eqv (.list (a :: r)) (.list []) = false := by simp [PyData.eqv, PyData.eqvAll]
theorem same_upd {H : Hp} {p : Addr} {o : HO} (h : H p = none) : Same H (upd H p o) := fun b x e => by
  rw [upd_ne (ne_of_none e h)]
  exact e
/-- what G doesn't know may change -/
theorem same_mut {G H : Hp} {p : Addr} {o : HO} (e : Same G H) (h : G p = none) : Same G (upd H p o) := fun b x q => by
  rw [upd_ne (ne_of_none q h)]
  exact e b x q
end My

/-! My own rules about instances of own classes: texts of them, making them by names and in a try, operators; errors with a dict in an except suite. -/
namespace My
open PySem PySem.Spec PyProof.Rows L2

section
variable {X : Cx}
/-! ### floor division by any divisor that is not 0 -/
def CDivZ (_ j : Int) : Prop := j ≠ 0 ∧ j.natAbs.log2 < 9000
theorem op_fdivZ : OpR X (binaryOp .FloorDiv) (rI CDivZ fun i j => .int (i.fdiv j)) := opI fun _ _ _ _ _ _ _ hc q => floordiv_int hc.1 q (.inl (PyProof.noPylong_of_log2 hc.2))
theorem cdivZ {i j : Int} (h : j ≠ 0) (hb : j.natAbs < 2 ^ 8000) : CDivZ i j := ⟨h, Nat.lt_of_lt_of_le (PySem.Flt.log2_lt_of (by decide) hb) (by decide)⟩

/-! ### str(o), o of an own class with __str__ -/
def rStrO (C : Addr) (sp : Sp) : List V → Hp → VK → Prop := fun xs H Q => ∃ a dx fs, xs = [.ref a] ∧ H a = some (.ins C dx fs) ∧ sp [.ref a] H (fun v H' => ∃ z, v = .str z ∧ Q (.str z) H') E0
theorem call_strO {CX : CXT} {k : Nat} {C f : Addr} {fd : FuncData} {ps : List Str} {sp : Sp} (hs : PySem.W.findIn X.K (.ref C) "__str__" = some (some (.ref f))) (hf : PySem.W.isFn X.K (.ref f) = true)
    (F : FnOk X.prog X.w X.K X.mg X.base CX k f fd ps sp) (hr : Room (k + 2) X.A) (hb : Binds X.K fd ps []) (hx : Passes CX X.nox E0) : CallR X (.type "str") (rStrO C sp) := by
  intro pins s σ H xs us Q I r h
  obtain ⟨a, dx, fs, rfl, ea, q⟩ := h
  obtain ⟨u, rfl, ru⟩ := vals1 r
  obtain rfl : u = Value.ref a := ru
  obtain ⟨mA, O, _, _, _, _⟩ := ins_get I.hok ea
  obtain ⟨od, J, _⟩ := O.look
  have hl : ([Value.ref a] ++ []).length = ps.length := by rw [← F.len _ _ _ _ q]; rfl
  refine PySem.W.kso_call hr.in1.in1.units0 I.kIn J hs hf (wpAny_call ?_)
  refine codeAny_mono (F.run X.A.in1.in1 X.stack s H ⟨[.ref a], []⟩ [.ref a] [.ref a] _ E0 hr.in1.in1 I.env0.in1.in1 (hb _ [.ref a] I.kIn hl) (.cons rfl .nil) q) fun r s' hq => ?_
  cases r with
  | error er => exact False.elim (hx pins σ H s er s' (I.wish _) hq)
  | ok fl =>
    cases fl with
    | ret u =>
      obtain ⟨v, H', I3, rv, z, ez, q3⟩ := I.after hq
      subst ez
      obtain ⟨t, rfl⟩ := rv
      exact ⟨.str z, H', I3, ⟨t, rfl⟩, q3⟩
    | next => exact False.elim hq
    | brk => exact False.elim hq
    | cont => exact False.elim hq

/-! ### C(k = v, ..), nothing by place -/
section
variable {CX : CXT} {k : Nat} {f C : Addr} {fd : FuncData} {ps ks : List Str} {sp : Sp} {E : XK} {x : Str} {p pos : Pos} {e : Expr} {es : List Expr} {kws : List Keyword} {t tk : TA} {g : List Value → List Value → List Value} {gV : List V → List V → List V}
theorem pe_makeK0 (M : Mk X.K C f) (F : FnOk X.prog X.w X.K X.mg X.base CX k f fd ps sp) (hr : Room (k + 1) X.A) (hg : Gl X x) (hm : X.mg x = some (.ref C)) (hb : KBn X.K fd ps (0 + 1) ks g gV) (hx : Passes CX X E)
    (hkw : PK X kws tk) (hall : (backToKw pos (keywordEach kws X.env)).all (·.1.isSome) = true := by rfl) (hks : (backToKw pos (keywordEach kws X.env)).filterMap (·.1) = ks := by rfl)
    (hdb : (x == ("__debug__" : Str)) = false := by decide)
    (hpl : ((backTo pos (starEach [] X.env)).any (·.1) || (backToKw pos (keywordEach kws X.env)).any (·.1.isNone)) = false := by rfl) :
    PE X (.Call (.Name x p) [] kws pos) (tMakeN C 0 ks.length sp gV E tNil tk) := by
  refine ⟨fun pins s σ H Q I h => ?_⟩
  refine wpAny_Call_Name_kw (ld_glob I hg hm ?_ hdb)
  refine PySem.W.callWith_KW0 (h₀ := X.base) I.ok.mod.kin M.kp hall (thn (hkw.run pos pins s σ H _ I h) fun ws s2 ⟨zs, H2, I2, rz, l1, l2, q2⟩ => ⟨I2.kIn, ?_⟩) hpl
  rw [hks]
  exact run_makeN M F hr hb hx I2 .nil rz rfl l2 q2

/-! ### cls(e, ..), the class under a name of the frame -/
def tMakeL (C : Addr) (i : Nat) (sp : Sp) (dvs : List V) (E : XK) (t : TA) : TE := fun σ H Q => σ[i]? = some (some (.ref C)) ∧ tMake C sp dvs E t σ H Q
theorem pe_makeL {i : Nat} {dvs : List V} {ds : List Value} (M : Mk X.K C f) (F : FnOk X.prog X.w X.K X.mg X.base CX k f fd ps sp) (hr : Room (k + 1) X.A) (hN : X.N[i]? = some x) (hv : Vis X.env.scope x) (hb : Binds X.K fd ps ds) (hd : Vals dvs ds) (hx : Passes CX X E)
    (ha : PA X (e :: es) t) (hd1 : (x == ("__debug__" : Str)) = false := by decide) (hcd : (x == ("__classdict__" : Str)) = false := by decide)
    (he : starEach (e :: es) X.env = (false, eval e X.env) :: starEach es X.env := by rfl) (hpl : (backTo pos (starEach es X.env)).any (·.1) = false := by rfl) :
    PE X (.Call (.Name x p) (e :: es) [] pos) (tMakeL C i sp dvs E t) := by
  refine ⟨fun pins s σ H Q I h => ?_⟩
  obtain ⟨hs, h⟩ := h
  refine wpAny_Call_Name_kw (thn ((pe_var (pos := p) hN hv hd1 hcd).run pins s σ H (fun v H1 => v = .ref C ∧ H1 = H) I ⟨.ref C, hs, rfl, rfl⟩) fun u s1 ⟨v, H1, I1, r1, q1⟩ => ?_)
  obtain ⟨rfl, rfl⟩ := q1
  cases r1
  refine PySem.W.callWith_K (h₀ := X.base) I.ok.mod.kin M.kp (thn (ha.run pos pins s1 σ _ _ I1 h) fun us s2 ⟨vs, H2, I2, r, q⟩ => ⟨I2.kIn, ?_⟩) he hpl
  exact run_make M F hr hb hd hx I2 r q

/-! ### C(e, ..) where what is raised is wished for at the caller's slots -/
def tMakeS (C : Addr) (sp : Sp) (dvs : List V) (E : L2.St → XK) (t : TA) : TE := fun σ H Q => tMake C sp dvs (E σ) t σ H Q
theorem run_makeS {pins : List (Addr × Obj)} {σ : L2.St} {H : Hp} {s : Shared} {Q : VK} {us : List Value} {vs : List V} {dvs : List V} {ds : List Value} (M : Mk X.K C f) (F : FnOk X.prog X.w X.K X.mg X.base CX k f fd ps sp) (hr : Room (k + 1) X.A) (hb : Binds X.K fd ps ds) (hd : Vals dvs ds)
    (hx : PassesAt CX X σ E) (I : Inv X pins σ H s) (r : Vals vs us)
    (h : ∀ x dx, H x = none → H dx = none → dx ≠ x → sp (.ref x :: (vs ++ dvs)) (upd (upd H dx (.own x)) x (.ins C dx [])) (fun v H2 => v = .non ∧ Q (.ref x) H2) E) :
    wpAny (model X.prog X.w) X.A (call (.ref C) us) (EP X pins σ Q) X.xe s := by
  have hq := h (s.heap.objs.size + 1) s.heap.objs.size (I.hok.fresh (Nat.le_succ _)) (I.hok.fresh (Nat.le_refl _)) (Nat.ne_of_lt (Nat.lt_succ_self _))
  have I2 := Inv.made (C := C) I
  have r2 : Vals (V.ref (s.heap.objs.size + 1) :: (vs ++ dvs)) (Value.ref (s.heap.objs.size + 1) :: (us ++ ds)) := .cons rfl (r.append hd)
  have hl : (Value.ref (s.heap.objs.size + 1) :: us ++ ds).length = ps.length := by
    have e := r2.length
    rw [F.len _ _ _ _ hq] at e
    exact e.symm
  refine wpAny_call (make_map (f := f) I.kIn M.makes M.init (beq_iff_eq.mp M.fn) (codeAny_mono (F.run _ X.stack _ _ ⟨Value.ref (s.heap.objs.size + 1) :: us, []⟩ (Value.ref (s.heap.objs.size + 1) :: (us ++ ds)) _ _ E (hr.make C us [])
    (I2.env0.make C us []) (hb _ (Value.ref (s.heap.objs.size + 1) :: us) I2.kIn hl) r2 hq) fun r s' hq' => ?_))
  cases r with
  | error e => exact hx pins _ _ e s' I2 hq'
  | ok fl =>
    cases fl with
    | ret u =>
      obtain ⟨v, H', I3, rv, ev, q3⟩ := I2.after hq'
      subst ev
      exact ⟨rv, ⟨V.ref (s.heap.objs.size + 1), H', I3, rfl, q3⟩⟩
    | next => exact False.elim hq'
    | brk => exact False.elim hq'
    | cont => exact False.elim hq'
theorem pe_makeS {E : L2.St → XK} {dvs : List V} {ds : List Value} (M : Mk X.K C f) (F : FnOk X.prog X.w X.K X.mg X.base CX k f fd ps sp) (hr : Room (k + 1) X.A) (hg : Gl X x) (hm : X.mg x = some (.ref C)) (hb : Binds X.K fd ps ds) (hd : Vals dvs ds) (hx : ∀ σ, PassesAt CX X σ (E σ))
    (ha : PA X (e :: es) t) (hdb : (x == ("__debug__" : Str)) = false := by decide) (he : starEach (e :: es) X.env = (false, eval e X.env) :: starEach es X.env := by rfl) (hpl : (backTo pos (starEach es X.env)).any (·.1) = false := by rfl) :
    PE X (.Call (.Name x p) (e :: es) [] pos) (tMakeS C sp dvs E t) := by
  refine ⟨fun pins s σ H Q I h => ?_⟩
  refine wpAny_Call_Name_kw (ld_glob I hg hm ?_ hdb)
  refine PySem.W.callWith_K (h₀ := X.base) I.ok.mod.kin M.kp (thn (ha.run pos pins s σ H _ I h) fun us s1 ⟨vs, H1, I1, r, q⟩ => ⟨I1.kIn, ?_⟩) he hpl
  exact run_makeS M F hr hb hd (hx σ) I1 r q
end

/-! ### C.m(k = v, ..), m a classmethod -/
section
variable {CX : CXT} {k : Nat} {C q0 g : Addr} {mc : Value} {fd : FuncData} {ps ks : List Str} {sp : Sp} {E : XK} {o : Expr} {m : Str} {pos apos : Pos} {kws : List Keyword} {ta : TE} {tk : TA} {pl : Sem Bool}
def tCMethK (C : Addr) (n : Nat) (sp : Sp) (E : XK) (ta : TE) (tk : TA) : TE := fun σ H Q => ta σ H fun x H1 => x = .ref C ∧ tk σ H1 fun zs H2 => zs.length = n ∧ sp (.ref C :: zs) H2 Q E
theorem pe_cmethK0 (he : PE X o ta) (r : ClX.CRead X.K C mc) (c : ClX.CMet X.K C mc m q0 g) (F : FnOk X.prog X.w X.K X.mg X.base CX k g fd ps sp) (hr : Room k X.A) (hx : Passes CX X E) (hkw : PK X kws tk)
    (hb : ∀ (s : Shared) (ws : List Value), X.K.In s.heap → ws.length = ks.length → BindsTo s fd ⟨Value.ref C :: [], ks.zip ws⟩ (ps.zip (Value.ref C :: ws)))
    (hall : (backToKw pos (keywordEach kws X.env)).all (·.1.isSome) = true := by rfl) (hks : (backToKw pos (keywordEach kws X.env)).filterMap (·.1) = ks := by rfl)
    (hpl : ((backTo pos (starEach [] X.env)).any (·.1) || (backToKw pos (keywordEach kws X.env)).any (·.1.isNone)) = false := by rfl)
    (ht : eval (.Call (.Attribute o m apos) [] kws pos) X.env = (do
      let ov ← eval o X.env
      standAt apos.atName
      let (f, first) ← holding [ov] (getMethod ov m pl)
      callWith pos f first (backTo pos (starEach [] X.env)) (backToKw pos (keywordEach kws X.env))) := by rfl) :
    PE X (.Call (.Attribute o m apos) [] kws pos) (tCMethK C ks.length sp E ta tk) := by
  refine ⟨fun pins s σ H Q I h => ?_⟩
  refine PySem.W.methodCall_KW (pl := pl) (thn (he.run pins s σ H _ I h) fun u s1 ⟨x, H1, I1, rx, ex, h2⟩ => ?_) ht
  subst ex
  obtain rfl : u = Value.ref C := rx
  refine ClX.getmethcm_ok I1 r c fun s2 I2 => ?_
  refine PySem.W.callWith_of hpl (PySem.W.keeps_M (K := X.K) (self := Value.ref C) c.fi) (evalArgs_kw2_nil hall (thn (hkw.run pos _ s2 σ H1 _ I2 h2) fun ws s3 ⟨zs, H2, I3, rz, hl, h3⟩ => ⟨⟨ClX.pin_at I3, I3.kIn⟩, ?_⟩))
  rw [hks]
  suffices z : wpAny (model X.prog X.w) X.A (call (.ref s1.heap.objs.size) [] (ks.zip ws)) (EP X ((s1.heap.objs.size, PySem.W.methodObj (.ref g) (.ref C)) :: pins) σ Q) X.xe s3 from thn z fun _ _ y => ClX.unpinE y
  refine wpAny_call (PySem.W.method_call (ClX.pin_at I3) ?_)
  have r2 : Vals (V.ref C :: zs) (Value.ref C :: ws) := .cons rfl rz
  refine codeAny_mono (F.run X.A X.stack s3 H2 ⟨Value.ref C :: [], ks.zip ws⟩ (Value.ref C :: ws) (V.ref C :: zs) Q E hr I3.env0 (hb s3 ws I3.kIn (rz.length.symm.trans hl)) r2 h3) fun r s' hq => ?_
  cases r with
  | error er => exact hx _ σ H2 s3 er s' I3 hq
  | ok fl =>
    cases fl with
    | ret u => exact I3.after hq
    | next => exact False.elim hq
    | brk => exact False.elim hq
    | cont => exact False.elim hq
end

/-! ### an error with a dict of its own, asked for its class in an except suite -/
theorem class_of_err {prog : Program} {w : World} {A : Around} {E : Value → Shared → Prop} {s : Shared} {K : PySem.W.Frag} {x D : Addr} {ox od : Obj} {Q : Option Value → Shared → Prop} (C : ExcC K D) (hK : K.In s.heap) (J : PySem.W.InstAt s.heap x ox D (some od))
    (h : Q (some (.ref D)) { s with toks := s.toks + 1 }) : wpAny (model prog w) A (getAttr? (.ref x) "__class__") Q E s := by
  have hcd : (PySem.W.clsIn K D).isSome = true := by
    obtain ⟨cd, hc, _⟩ := PySem.W.any_some C.hd
    rw [hc]
    rfl
  have hf : PySem.W.findObj K D (some od) "__class__" = some (.bind (.builtin "getset_descriptor.__get__") (.builtin "object.__class__")) := PySem.W.findObj_data hcd C.ha C.hn C.ht
  obtain ⟨hp, gg, dr, tt, os⟩ := s
  have T0 := J.type (M := model prog w)
  have T1 := PySem.W.looks_findIn (M := model prog w) hK C.hg
  have T2 := PySem.W.looks_findIn (M := model prog w) hK C.hk
  have T3 := PySem.W.looks_find (M := model prog w) hK J hf
  have below : PySem.W.Looks (model prog w) hp (isInstance (.ref x) (.type "BaseException")) true := T0.andThen (PySem.W.looks_subIn hK C.hs)
  have b0 : (false && onTheHeap (Value.builtin "BaseException.__getattribute__")) = false := rfl
  have b2 : (Value.builtin "BaseException.__getattribute__" == Value.builtin "object.__getattribute__") = false := by decide +kernel
  have b1 : (onTheHeap (Value.ref D) && Value.builtin "BaseException.__getattribute__" == Value.builtin "object.__getattribute__") = false := by rw [b2]; rfl
  unfold getAttr? getAttrBy? getAttrBy
  refine wpAny_bind (wpAny_mkText (wpAny_bind (wpAny_attempt (wpAny_holding (wpAny_bind (T0.at (wpAny_bind (T1.at ?_))))))))
  show wpAny _ _ (if (onTheHeap (Value.ref D) && Value.builtin "BaseException.__getattribute__" == Value.builtin "object.__getattribute__") = true then _ else _) _ _ _
  rw [b1, if_neg Bool.false_ne_true]
  unfold getAttrByItsOwn hookBefore
  refine wpAny_bind ?_
  rw [if_pos (show onTheHeap (Value.ref D) = true from rfl)]
  refine T2.at ?_
  refine wpAny_bind (wpAny_attempt (wpAny_holding ?_))
  unfold callGetattribute
  rw [b0, if_neg Bool.false_ne_true]
  unfold boundAndCalled
  rw [PySem.F.excAttr_ValueError.ga.bind (.ref x)]
  refine wpAny_bind (wpAny_pure ?_)
  show wpAny _ _ (call (.builtin "BaseException.__getattribute__") [.ref x, .str "__class__" tt]) _ _ _
  refine wpAny_call (codeAny_call_builtin PySem.F.excAttr_ValueError.ga.plain PySem.F.entry_bexc_ga ?_)
  refine @PySem.W.check_slot (model prog w) _ _ ⟨hp, gg, dr, tt + 1, os⟩ "BaseException.__getattribute__" "BaseException" "__getattribute__" (.ref x) [.str "__class__" tt] [] _ (by decide +kernel) (by decide +kernel) below (PySem.F.args_bexc_ga (.ref x) (.str "__class__" tt)) ?_
  unfold Builtin.«object.__getattribute__»
  refine wpAny_bind (wpAny_of_eq (a := ((Value.ref x : Value), [Value.str "__class__" tt])) (by first | rfl | (simp only [slotArgs]; rfl)) ?_)
  refine wpAny_bind (wpAny_pure (wpAny_bind (T0.at (wpAny_bind (T3.at ?_)))))
  show wpAny _ _ (holding [Value.builtin "object.__class__"] (call (.builtin "getset_descriptor.__get__") [.builtin "object.__class__", .ref x, .ref D]) >>= ret) _ _ _
  refine wpAny_bind (wpAny_holding (wpAny_call (PySem.W.class_get (s := ⟨hp, gg, dr, tt + 1, os⟩) (ox := ox) (od := some od) hK J C.hm ?_)))
  refine wpAny_pure ?_
  show wpAny _ _ (handedOut (.ref D)) _ _ _
  rw [PySem.W.handedOut_of (v := .ref D) rfl]
  first
    | exact wpAny_pure (wpAny_pure h)
    | exact wpAny_pure h
    | exact wpAny_pure (wpAny_bind (wpAny_pure (wpAny_pure h)))
theorem kit_err {K : PySem.W.Frag} {x D : Addr} {ox od : Obj} (C : ExcC K D) : PySem.W.KitX K (.ref x) (.ref D) (fun h => PySem.W.InstAt h x ox D (some od)) where
  ty := fun _ _ _ J => J.type
  it := fun _ _ hK _ => by
    obtain ⟨cdD, hcD, _⟩ := PySem.W.any_some C.hd
    unfold PySem.W.clsIn at hcD
    split at hcD
    · rename_i c' d' cd' sl' ho
      intro A' Q' E' s' kk q
      unfold isType loadHead
      exact wpAny_bind (wpAny_loadPart (kk _ _ (hK _ _ ho)) (wpAny_pure q))
    · cases hcD
  ne := fun h tp dd its n sl hK htp => by
    obtain ⟨cdD, hcD, _⟩ := PySem.W.any_some C.hd
    refine Bool.eq_false_iff.mpr fun q => ?_
    have e : D = tp := Value.ref.inj (beq_iff_eq.mp q)
    subst e
    unfold PySem.W.clsIn at hcD
    split at hcD
    · rename_i c' d' cd' sl' ho
      have z := (hK _ _ ho).symm.trans htp
      cases z
    · cases hcD
  ca := fun hK J q => class_of_err C hK J q
def rIsEd (K : PySem.W.Frag) (a : Addr) (cls : Value) (d : Option Addr) (D : Addr) : List V → Hp → VK → Prop := fun xs H Q => ∃ (c : V) (cv : Value) (b : Bool) (dd : Addr) (fs : List (Str × V)), xs = [.ref a, c] ∧ cls = .ref D ∧ d = some dd ∧ ClsV c cv ∧ PySem.W.kitOne K (.ref D) cv = some b ∧ H dd = some (.xd fs) ∧ Q (.bl b) H
theorem call_isEd {a D : Addr} {cls : Value} {d : Option Addr} {oe : Obj} {pn : List (Addr × Obj)} (C : ExcC X.K D) (hz : Zc cls d oe) (hf : ∃ vs, oe.data = .fields vs) : CallR (X.suite a ((a, oe) :: pn)) (.builtin "isinstance") (rIsEd X.K a cls d D) := by
  intro pins s σ H xs us Q I r h
  obtain ⟨c, cv, b, dd, fs, rfl, e1, e2, hcv, e, hd, q⟩ := h
  subst e1
  subst e2
  obtain ⟨u, w', rfl, ru, rw'⟩ := vals2 r
  obtain rfl : u = Value.ref a := ru
  obtain rfl := hcv.eq rw'
  obtain ⟨hget, _⟩ := I.pin (a, oe) (List.mem_append.mpr (.inl List.mem_cons_self))
  obtain ⟨vs, hv⟩ := hf
  have hx : ObjOk X.prog X.w H s.heap dd (.xd fs) := I.hok dd _ hd
  obtain ⟨mA, hns, hrel⟩ := hx
  obtain ⟨od, ho, hl⟩ := lookIn_ns hns
  have J : PySem.W.InstAt s.heap a oe D (some od) := ⟨hget, hz.1, by unfold PySem.W.notCls; rw [hv] <;> rfl, by rw [hz.2]; exact ho⟩
  exact PySem.W.kia_one (kit_err C) I.kIn J e (fun z => nomatch z) fun tk => ⟨.bl b, H, I.kept (t' := tk) fun _ _ z => z, rfl, q⟩
end

/-! ### isinstance by the written part; keywords in another order -/
theorem kit_self {K : PySem.W.Frag} {C : Addr} : PySem.W.kitOne K (.ref C) (.ref C) = some true := by
  unfold PySem.W.kitOne
  rw [if_pos (by simp)]
theorem kit_sub {K : PySem.W.Frag} {t : Value} {C : Addr} {b : Bool} (ic : PySem.W.isClsIn K C = true) (ty : PySem.W.typeIn K (.ref C) = some (.type "type")) (su : PySem.W.subIn K t (.ref C) = some b) (ne : t ≠ .ref C) : PySem.W.kitOne K t (.ref C) = some b := by
  unfold PySem.W.kitOne
  rw [if_neg (by simpa using ne)]
  show (if ((PySem.W.clsIn K C).isSome && PySem.W.typeIn K (.ref C) == some (.type "type")) = true then PySem.W.subIn K t (.ref C) else none) = some b
  rw [ty, show (PySem.W.clsIn K C).isSome = true from ic, if_pos (by simp)]
  exact su
theorem kit_not {K : PySem.W.Frag} {t : Value} {C : Addr} (ic : PySem.W.isClsIn K C = true) (ty : PySem.W.typeIn K (.ref C) = some (.type "type")) (su : PySem.W.subIn K t (.ref C) = some false) (ne : t ≠ .ref C) : PySem.W.kitOne K t (.ref C) = some false := kit_sub ic ty su ne
def permL {α : Type} (is : List Nat) (ws : List α) : List α := is.filterMap fun i => ws[i]?
theorem permL_rel (is : List Nat) {zs : List V} {ws : List Value} (r : Vals zs ws) : Vals (permL is zs) (permL is ws) := by
  induction is with
  | nil => exact .nil
  | cons i is ih =>
    unfold permL at ih ⊢
    rw [List.filterMap_cons, List.filterMap_cons]
    cases e : zs[i]? with
    | none =>
      rw [r.none_of e]
      exact ih
    | some x =>
      obtain ⟨u, hu, ru⟩ := r.get e
      rw [hu]
      exact .cons ru ih
end My

namespace My
open PySem PySem.Spec PyProof.Rows L2
def topS (i : Nat) : Stmt := PySem.Challenge.pw_extralink_k02_ratio_parts.main.body.getD i (.Pass ⟨0, 0, 0, 0⟩)
abbrev s_as_ratio : Stmt := topS 12
theorem sc_as_ratio : FnScope ["value"] ["value"] (defScope s_as_ratio) := ⟨rfl, rfl, rfl, by decide +kernel, rfl, by decide +kernel, by decide +kernel⟩
abbrev s_is_number : Stmt := topS 13
theorem sc_is_number : FnScope ["text", "char"] ["text"] (defScope s_is_number) := ⟨rfl, rfl, rfl, by decide +kernel, rfl, by decide +kernel, by decide +kernel⟩
abbrev s_numeral : Stmt := topS 14
theorem sc_numeral : FnScope ["number", "rest", "pieces", "piece"] ["number"] (defScope s_numeral) := ⟨rfl, rfl, rfl, by decide +kernel, rfl, by decide +kernel, by decide +kernel⟩
abbrev s_start : Stmt := topS 16
theorem sc_start : FnScope ["_law_script", "_law_cell"] ["_law_script"] (defScope s_start) := ⟨rfl, rfl, rfl, by decide +kernel, rfl, by decide +kernel, by decide +kernel⟩
abbrev s_draw : Stmt := topS 17
theorem sc_draw : FnScope ["_law_state", "_law_size", "_law_digit", "_law_cell", "_law_one"] ["_law_state", "_law_size"] (defScope s_draw) := ⟨rfl, rfl, rfl, by decide +kernel, rfl, by decide +kernel, by decide +kernel⟩
abbrev s_low : Stmt := topS 18
theorem sc_low : FnScope ["_law_up", "_law_down", "_law_a", "_law_b"] ["_law_up", "_law_down"] (defScope s_low) := ⟨rfl, rfl, rfl, by decide +kernel, rfl, by decide +kernel, by decide +kernel⟩
abbrev s_is : Stmt := topS 22
theorem sc_is : FnScope ["_law_actual", "_law_pair"] ["_law_actual", "_law_pair"] (defScope s_is) := ⟨rfl, rfl, rfl, by decide +kernel, rfl, by decide +kernel, by decide +kernel⟩
abbrev s_integer : Stmt := topS 23
theorem sc_integer : FnScope ["_law_state", "_law_scale"] ["_law_state"] (defScope s_integer) := ⟨rfl, rfl, rfl, by decide +kernel, rfl, by decide +kernel, by decide +kernel⟩
abbrev s_refused : Stmt := topS 24
theorem sc_refused : FnScope ["_law_upper", "e"] ["_law_upper"] (defScope s_refused) := ⟨rfl, rfl, rfl, by decide +kernel, rfl, by decide +kernel, by decide +kernel⟩
abbrev s_text : Stmt := topS 25
theorem sc_text : FnScope ["_law_pair"] ["_law_pair"] (defScope s_text) := ⟨rfl, rfl, rfl, by decide +kernel, rfl, by decide +kernel, by decide +kernel⟩
abbrev s_parts : Stmt := topS 26
theorem sc_parts : FnScope ["_law_ratio", "_law_pair", "_law_sign"] ["_law_ratio", "_law_pair"] (defScope s_parts) := ⟨rfl, rfl, rfl, by decide +kernel, rfl, by decide +kernel, by decide +kernel⟩
abbrev s_law : Stmt := topS 27
theorem sc_law : FnScope ["_law_script", "_law_state", "_law_upper", "_law_lower", "_law_factor", "_law_pair", "_law_ratio"] ["_law_script"] (defScope s_law) := ⟨rfl, rfl, rfl, by decide +kernel, rfl, by decide +kernel, by decide +kernel⟩
abbrev s_OutOfRange_init : Stmt := inClass (topS 4) 0
theorem sc_OutOfRange_init : FnScope ["self", "value"] ["self", "value"] (defScope s_OutOfRange_init) := ⟨rfl, rfl, rfl, by decide +kernel, rfl, by decide +kernel, by decide +kernel⟩
abbrev s_Ratio_init : Stmt := inClass (topS 11) 0
theorem sc_Ratio_init : FnScope ["self", "top", "bottom", "common"] ["self", "top", "bottom"] (defScope s_Ratio_init) := ⟨rfl, rfl, rfl, by decide +kernel, rfl, by decide +kernel, by decide +kernel⟩
abbrev s_Ratio_read : Stmt := inClass (topS 11) 1
theorem sc_Ratio_read : FnScope ["cls", "text", "front", "stroke", "back"] ["cls", "text"] (defScope s_Ratio_read) := ⟨rfl, rfl, rfl, by decide +kernel, rfl, by decide +kernel, by decide +kernel⟩
abbrev s_Ratio_top : Stmt := inClass (topS 11) 2
theorem sc_Ratio_top : FnScope ["self"] ["self"] (defScope s_Ratio_top) := ⟨rfl, rfl, rfl, by decide +kernel, rfl, by decide +kernel, by decide +kernel⟩
abbrev s_Ratio_bottom : Stmt := inClass (topS 11) 3
theorem sc_Ratio_bottom : FnScope ["self"] ["self"] (defScope s_Ratio_bottom) := ⟨rfl, rfl, rfl, by decide +kernel, rfl, by decide +kernel, by decide +kernel⟩
abbrev s_Ratio_sign : Stmt := inClass (topS 11) 4
theorem sc_Ratio_sign : FnScope ["self"] ["self"] (defScope s_Ratio_sign) := ⟨rfl, rfl, rfl, by decide +kernel, rfl, by decide +kernel, by decide +kernel⟩
abbrev s_Ratio_eq : Stmt := inClass (topS 11) 14
theorem sc_Ratio_eq : FnScope ["self", "other"] ["self", "other"] (defScope s_Ratio_eq) := ⟨rfl, rfl, rfl, by decide +kernel, rfl, by decide +kernel, by decide +kernel⟩
abbrev s_Ratio_str : Stmt := inClass (topS 11) 15
theorem sc_Ratio_str : FnScope ["self"] ["self"] (defScope s_Ratio_str) := ⟨rfl, rfl, rfl, by decide +kernel, rfl, by decide +kernel, by decide +kernel⟩
/-- what the top has written -/
structure Txt (K : PySem.W.Frag) (mg : Str → Option Value) where
  f_OutOfRange : Addr
  m_OutOfRange : mg "OutOfRange" = some (.ref f_OutOfRange)
  f_Ratio : Addr
  m_Ratio : mg "Ratio" = some (.ref f_Ratio)
  cl_Ratio : Cls K f_Ratio
  ic_Ratio : C8.InsC K f_Ratio
  na_Ratio_top : NoAttr K f_Ratio "_top"
  na_Ratio_bottom : NoAttr K f_Ratio "_bottom"
  ki_Ratio_int : PySem.W.kitOne K (.type "int") (.ref f_Ratio) = some false
  f_ExtralinkError : Addr
  m_ExtralinkError : mg "ExtralinkError" = some (.ref f_ExtralinkError)
  f_as_ratio : Addr
  d_as_ratio : FuncData
  F_as_ratio : Fun K "as_ratio" "as_ratio" s_as_ratio f_as_ratio d_as_ratio
  b_as_ratio : Binds K d_as_ratio ["value"] []
  m_as_ratio : mg "as_ratio" = some (.ref f_as_ratio)
  f_is_number : Addr
  d_is_number : FuncData
  F_is_number : Fun K "is_number" "is_number" s_is_number f_is_number d_is_number
  b_is_number : Binds K d_is_number ["text"] []
  m_is_number : mg "is_number" = some (.ref f_is_number)
  f_numeral : Addr
  d_numeral : FuncData
  F_numeral : Fun K "numeral" "numeral" s_numeral f_numeral d_numeral
  b_numeral : Binds K d_numeral ["number"] []
  m_numeral : mg "numeral" = some (.ref f_numeral)
  f_start : Addr
  d_start : FuncData
  F_start : Fun K "_law_start" "_law_start" s_start f_start d_start
  b_start : Binds K d_start ["_law_script"] []
  m_start : mg "_law_start" = some (.ref f_start)
  f_draw : Addr
  d_draw : FuncData
  F_draw : Fun K "_law_draw" "_law_draw" s_draw f_draw d_draw
  b_draw : Binds K d_draw ["_law_state", "_law_size"] []
  m_draw : mg "_law_draw" = some (.ref f_draw)
  f_low : Addr
  d_low : FuncData
  F_low : Fun K "_law_low" "_law_low" s_low f_low d_low
  b_low : Binds K d_low ["_law_up", "_law_down"] []
  m_low : mg "_law_low" = some (.ref f_low)
  f_is : Addr
  d_is : FuncData
  F_is : Fun K "_law_is" "_law_is" s_is f_is d_is
  b_is : Binds K d_is ["_law_actual", "_law_pair"] []
  m_is : mg "_law_is" = some (.ref f_is)
  f_integer : Addr
  d_integer : FuncData
  F_integer : Fun K "_law_integer" "_law_integer" s_integer f_integer d_integer
  b_integer : Binds K d_integer ["_law_state"] []
  m_integer : mg "_law_integer" = some (.ref f_integer)
  f_refused : Addr
  d_refused : FuncData
  F_refused : Fun K "_law_refused" "_law_refused" s_refused f_refused d_refused
  b_refused : Binds K d_refused ["_law_upper"] []
  m_refused : mg "_law_refused" = some (.ref f_refused)
  f_text : Addr
  d_text : FuncData
  F_text : Fun K "_law_text" "_law_text" s_text f_text d_text
  b_text : Binds K d_text ["_law_pair"] []
  m_text : mg "_law_text" = some (.ref f_text)
  f_parts : Addr
  d_parts : FuncData
  F_parts : Fun K "_law_parts" "_law_parts" s_parts f_parts d_parts
  b_parts : Binds K d_parts ["_law_ratio", "_law_pair"] []
  m_parts : mg "_law_parts" = some (.ref f_parts)
  f_OutOfRange_init : Addr
  d_OutOfRange_init : FuncData
  F_OutOfRange_init : Fun K "__init__" "OutOfRange.__init__" s_OutOfRange_init f_OutOfRange_init d_OutOfRange_init
  b_OutOfRange_init : Binds K d_OutOfRange_init ["self", "value"] []
  a_OutOfRange_init : PySem.W.findIn K (.ref f_OutOfRange) "__init__" = some (some (.ref f_OutOfRange_init))
  i_OutOfRange_init : PySem.W.isFn K (.ref f_OutOfRange_init) = true
  f_Ratio_init : Addr
  d_Ratio_init : FuncData
  F_Ratio_init : FunD K "__init__" "Ratio.__init__" (defArgs s_Ratio_init) (defBody s_Ratio_init) (defScope s_Ratio_init) [V.int 1] [] f_Ratio_init d_Ratio_init
  a_Ratio_init : PySem.W.findIn K (.ref f_Ratio) "__init__" = some (some (.ref f_Ratio_init))
  i_Ratio_init : PySem.W.isFn K (.ref f_Ratio_init) = true
  mk_Ratio : Mk K f_Ratio f_Ratio_init
  f_Ratio_read : Addr
  d_Ratio_read : FuncData
  F_Ratio_read : Fun K "read" "Ratio.read" s_Ratio_read f_Ratio_read d_Ratio_read
  b_Ratio_read : Binds K d_Ratio_read ["cls", "text"] []
  p0_Ratio_read : Addr
  cr_Ratio : ClX.CRead K f_Ratio (.type "type")
  cm_Ratio_read : ClX.CMet K f_Ratio (.type "type") "read" p0_Ratio_read f_Ratio_read
  f_Ratio_top : Addr
  d_Ratio_top : FuncData
  F_Ratio_top : Fun K "top" "Ratio.top" s_Ratio_top f_Ratio_top d_Ratio_top
  b_Ratio_top : Binds K d_Ratio_top ["self"] []
  p0_Ratio_top : Addr
  p_Ratio_top : PropOf K f_Ratio "top" p0_Ratio_top f_Ratio_top
  f_Ratio_bottom : Addr
  d_Ratio_bottom : FuncData
  F_Ratio_bottom : Fun K "bottom" "Ratio.bottom" s_Ratio_bottom f_Ratio_bottom d_Ratio_bottom
  b_Ratio_bottom : Binds K d_Ratio_bottom ["self"] []
  p0_Ratio_bottom : Addr
  p_Ratio_bottom : PropOf K f_Ratio "bottom" p0_Ratio_bottom f_Ratio_bottom
  f_Ratio_sign : Addr
  d_Ratio_sign : FuncData
  F_Ratio_sign : Fun K "sign" "Ratio.sign" s_Ratio_sign f_Ratio_sign d_Ratio_sign
  b_Ratio_sign : Binds K d_Ratio_sign ["self"] []
  p0_Ratio_sign : Addr
  p_Ratio_sign : PropOf K f_Ratio "sign" p0_Ratio_sign f_Ratio_sign
  f_Ratio_eq : Addr
  d_Ratio_eq : FuncData
  F_Ratio_eq : Fun K "__eq__" "Ratio.__eq__" s_Ratio_eq f_Ratio_eq d_Ratio_eq
  b_Ratio_eq : Binds K d_Ratio_eq ["self", "other"] []
  a_Ratio_eq : PySem.W.findIn K (.ref f_Ratio) "__eq__" = some (some (.ref f_Ratio_eq))
  i_Ratio_eq : PySem.W.isFn K (.ref f_Ratio_eq) = true
  f_Ratio_str : Addr
  d_Ratio_str : FuncData
  F_Ratio_str : Fun K "__str__" "Ratio.__str__" s_Ratio_str f_Ratio_str d_Ratio_str
  b_Ratio_str : Binds K d_Ratio_str ["self"] []
  a_Ratio_str : PySem.W.findIn K (.ref f_Ratio) "__str__" = some (some (.ref f_Ratio_str))
  i_Ratio_str : PySem.W.isFn K (.ref f_Ratio_str) = true
  e1_Ratio_init : List Value
  v1_Ratio_init : Vals [V.int 1] e1_Ratio_init
  b1_Ratio_init : Binds K d_Ratio_init ["self", "top", "bottom"] e1_Ratio_init
  e2_Ratio_init : List Value
  v2_Ratio_init : Vals [] e2_Ratio_init
  b2_Ratio_init : Binds K d_Ratio_init ["self", "top", "bottom"] e2_Ratio_init
  kb_Ratio_init_bottom_top : KBn K d_Ratio_init ["self", "top", "bottom"] (0 + 1) ["bottom", "top"] (fun us ws => us ++ permL [1, 0] ws) (fun vs zs => vs ++ permL [1, 0] zs)
  kb_Ratio_read_text : ∀ (s : Shared) (ws : List Value), K.In s.heap → ws.length = (["text"] : List Str).length → BindsTo s d_Ratio_read ⟨Value.ref f_Ratio :: [], List.zip (["text"] : List Str) ws⟩ (List.zip (["cls", "text"] : List Str) (Value.ref f_Ratio :: ws))
  ox_OutOfRange : OexC K f_OutOfRange
  ix_OutOfRange : PySem.W.findIn K (.ref f_OutOfRange) "__init__" = some (some (.ref f_OutOfRange_init))
  tx_OutOfRange : PySem.W.typeIn K (.ref f_OutOfRange_init) = some (.type "function")
  xf_OutOfRange : XfC K f_OutOfRange
  ec_OutOfRange : ExcC K f_OutOfRange
  no_OutOfRange_value : PySem.W.findIn K (.ref f_OutOfRange) "value" = some none
  es_OutOfRange_OutOfRange : PySem.W.subIn K (.ref f_OutOfRange) (.ref f_OutOfRange) = some true
  xi_OutOfRange_OutOfRange : PySem.W.isClsIn K f_OutOfRange = true
  xt_OutOfRange_OutOfRange : PySem.W.typeIn K (.ref f_OutOfRange) = some (.type "type")
  es_OutOfRange_ExtralinkError : PySem.W.subIn K (.ref f_OutOfRange) (.ref f_ExtralinkError) = some true
  neq_OutOfRange_ExtralinkError : Value.ref f_OutOfRange ≠ Value.ref f_ExtralinkError
  xi_OutOfRange_ExtralinkError : PySem.W.isClsIn K f_ExtralinkError = true
  xt_OutOfRange_ExtralinkError : PySem.W.typeIn K (.ref f_ExtralinkError) = some (.type "type")
  kb_as_ratio_0_value : KBinds K d_as_ratio ["value"] ["value"] kAll kAll
  t_DIGITS : Tok
  c_DIGITS : mg "DIGITS" = some (.str ("0123456789" : Str) t_DIGITS)
  t_LONGEST_NUMBER : Tok
  c_LONGEST_NUMBER : mg "LONGEST_NUMBER" = some (.int 9 t_LONGEST_NUMBER)
  t_PIECE : Tok
  c_PIECE : mg "PIECE" = some (.int 10000000000000000000000000000000000000000000000000000000000000000 t_PIECE)
  t_PIECE_DIGITS : Tok
  c_PIECE_DIGITS : mg "PIECE_DIGITS" = some (.int 64 t_PIECE_DIGITS)
  g_gcd : mg "gcd" = some (.builtin "math.gcd")
  n_abs : mg "abs" = none
  n_all : mg "all" = none
  n_divmod : mg "divmod" = none
  n_int : mg "int" = none
  n_isinstance : mg "isinstance" = none
  n_len : mg "len" = none
  n_list : mg "list" = none
  n_str : mg "str" = none
/-! ### the law's own draws: a list of great numbers, a list of cells, a count -/
section
variable {P : Program} {w : World} {K : PySem.W.Frag} {mg : Str → Option Value} {base : Heap}
/-- the state's objects as they stand; G is what else is known, the state is none of it -/
structure DS (G H : Hp) (s b c : Addr) (gs cs : List Int) (n : Nat) : Prop where
  same : Same G H
  fs : G s = none
  fb : G b = none
  fc : G c = none
  hs : H s = some (.lst [.ref b, .ref c, .int (n : Int)])
  hb : H b = some (.lst (gs.map V.int))
  hc : H c = some (.lst (cs.map V.int))
  ne : b ≠ c
  pos : 0 < cs.length
theorem DS.sb {G H : Hp} {s b c : Addr} {gs cs : List Int} {n : Nat} (d : DS G H s b c gs cs n) : s ≠ b := ne_of d.hs d.hb (by cases gs <;> simp)
theorem DS.sc {G H : Hp} {s b c : Addr} {gs cs : List Int} {n : Nat} (d : DS G H s b c gs cs n) : s ≠ c := ne_of d.hs d.hc (by cases cs <;> simp)
/-- at most m draws were made -/
def DSt (G H : Hp) (s : Addr) (m : Nat) : Prop := ∃ (b c : Addr) (gs cs : List Int) (n : Nat), DS G H s b c gs cs n ∧ n ≤ m
theorem DSt.same {G H : Hp} {s : Addr} {m : Nat} (d : DSt G H s m) : Same G H := let ⟨_, _, _, _, _, d, _⟩ := d; d.same
theorem DSt.mono {G H : Hp} {s : Addr} {m m' : Nat} (d : DSt G H s m) (h : m ≤ m') : DSt G H s m' := let ⟨b, c, gs, cs, n, d, hn⟩ := d; ⟨b, c, gs, cs, n, d, Nat.le_trans hn h⟩
/-- a new object comes beside, known from then on -/
theorem DSt.new {G H : Hp} {s : Addr} {m : Nat} {p : Addr} {o : HO} (d : DSt G H s m) (hp : H p = none) : DSt (upd G p o) (upd H p o) s m := by
  obtain ⟨b, c, gs, cs, n, d, hn⟩ := d
  have n1 : s ≠ p := ne_of_none d.hs hp
  have n2 : b ≠ p := ne_of_none d.hb hp
  have n3 : c ≠ p := ne_of_none d.hc hp
  refine ⟨b, c, gs, cs, n, ⟨fun a u e => ?_, ?_, ?_, ?_, ?_, ?_, ?_, d.ne, d.pos⟩, hn⟩
  · by_cases ha : a = p
    · subst ha; rw [upd_same] at e ⊢; exact e
    · rw [upd_ne ha] at e ⊢; exact d.same a u e
  · rw [upd_ne n1]; exact d.fs
  · rw [upd_ne n2]; exact d.fb
  · rw [upd_ne n3]; exact d.fc
  · rw [upd_ne n1]; exact d.hs
  · rw [upd_ne n2]; exact d.hb
  · rw [upd_ne n3]; exact d.hc
/-- a known object changes -/
theorem DSt.put {G H : Hp} {s : Addr} {m : Nat} {p : Addr} {o u : HO} (d : DSt G H s m) (hp : G p = some u) : DSt (upd G p o) (upd H p o) s m := by
  obtain ⟨b, c, gs, cs, n, d, hn⟩ := d
  have n1 : s ≠ p := fun e => by rw [← e, d.fs] at hp; cases hp
  have n2 : b ≠ p := fun e => by rw [← e, d.fb] at hp; cases hp
  have n3 : c ≠ p := fun e => by rw [← e, d.fc] at hp; cases hp
  refine ⟨b, c, gs, cs, n, ⟨fun a v e => ?_, ?_, ?_, ?_, ?_, ?_, ?_, d.ne, d.pos⟩, hn⟩
  · by_cases ha : a = p
    · subst ha; rw [upd_same] at e ⊢; exact e
    · rw [upd_ne ha] at e ⊢; exact d.same a v e
  · rw [upd_ne n1]; exact d.fs
  · rw [upd_ne n2]; exact d.fb
  · rw [upd_ne n3]; exact d.fc
  · rw [upd_ne n1]; exact d.hs
  · rw [upd_ne n2]; exact d.hb
  · rw [upd_ne n3]; exact d.hc
/-- what else is known of the heap may be less, the rest may be more -/
theorem DSt.less {G G' H : Hp} {s : Addr} {m : Nat} (d : DSt G H s m) (h : Same G' G) : DSt G' H s m := by
  obtain ⟨b, c, gs, cs, n, d, hn⟩ := d
  have fr : ∀ a, G a = none → G' a = none := fun a e => h.free e
  exact ⟨b, c, gs, cs, n, ⟨h.trans d.same, fr _ d.fs, fr _ d.fb, fr _ d.fc, d.hs, d.hb, d.hc, d.ne, d.pos⟩, hn⟩
/-- all that stands behind stays; known is what was known -/
theorem DSt.on {G H H' : Hp} {s : Addr} {m : Nat} (d : DSt G H s m) (h : Same H H') : DSt G H' s m := by
  obtain ⟨b, c, gs, cs, n, d, hn⟩ := d
  exact ⟨b, c, gs, cs, n, ⟨d.same.trans h, d.fs, d.fb, d.fc, h _ _ d.hs, h _ _ d.hb, h _ _ d.hc, d.ne, d.pos⟩, hn⟩
theorem DSt.free {G H : Hp} {s : Addr} {m : Nat} {p : Addr} (d : DSt G H s m) (hp : H p = none) : G p = none := d.same.free hp

def spStart (K : PySem.W.Frag) : Sp := fun vs H Q _ => ∃ (a : Addr) (ns : List Int), vs = [.ref a] ∧ SqL K H a (ns.map V.int) ∧ ns.length ≤ 63 ∧ ∀ (s : Addr) (H' : Hp), DSt H H' s 0 → Q (.ref s) H'
def spDraw : Sp := fun vs H Q _ => ∃ (G : Hp) (s : Addr) (m : Nat) (sz : Int), vs = [.ref s, .int sz] ∧ DSt G H s m ∧ m < 1000000 ∧ 0 < sz ∧ sz < 2 ^ 200 ∧
  ∀ (r : Int) (H' : Hp), 0 ≤ r → r < sz → DSt G H' s (m + 1) → Q (.int r) H'

theorem take_more {α : Type} : ∀ {l : List α} {i : Nat} {x : α}, l[i]? = some x → l.take (i + 1) = l.take i ++ [x]
  | [], i, x, h => by simp at h
  | a :: l, 0, x, h => by
    have e : a = x := Option.some.inj h
    subst e
    rfl
  | a :: l, i + 1, x, h => by
    have ih := take_more (l := l) (i := i) (x := x) h
    show a :: l.take (i + 1) = a :: l.take i ++ [x]
    rw [ih]
    rfl
theorem pow_lt (c n : Int) (hc : 0 ≤ c) (hc2 : c < 2147483647) (hn : 0 ≤ n) (hn2 : n ≤ 1000001) : (c * 48271 + n * 69621 + 7).natAbs < 2 ^ 64 := by omega
theorem pow_lt2 (c n : Int) (hc : 0 ≤ c) (hc2 : c < 2147483647) (hn : 0 ≤ n) (hn2 : n ≤ 1000001) : (c * 16807 + n * 40692 + 13).natAbs < 2 ^ 64 := by omega

theorem cut1 (xs : List V) : cutV xs (some 1) none = xs.drop 1 := by
  unfold cutV
  rw [show HT.sIx xs.length 0 (some 1) = min 1 xs.length from HT.sIx_nat xs.length 0 1, HT.sIx_none]
  cases xs with
  | nil => rfl
  | cons x r =>
    rw [show min 1 (x :: r).length = 1 by
      rw [List.length_cons]
      omega]
    show (List.take ((x :: r).length - 1) r) = r
    rw [List.length_cons, Nat.add_sub_cancel]
    exact List.take_length
theorem big1 : (0 : Int) < 2147483647 := by decide
theorem big2 : (0 : Int) < 2147483629 := by decide
theorem ok_start (T : Txt K mg) : FnOk P w K mg base CX0 1 T.f_start T.d_start ["_law_script"] (spStart K) := by
  refine T.F_start.ok sc_start (fun vs H Q E h => ?_) (fun cdv A outer s H vs Q E hr h => ?_)
  · obtain ⟨a, ns, rfl, _⟩ := h
    rfl
  · obtain ⟨a, ns, rfl, hS, hlen, k⟩ := h
    refine ⟨_, (pss_one (ps_ret (pe_lst (pa_cons (pe_lc (own := [("_law_cell", 1)]) (g := gName 1) rfl sc_start.nd (pi_list (pv 0)) (blkOk_by (N := ["_law_script", "_law_cell"]) (sc := defScope s_start) (by decide +kernel)) (fun _ _ _ _ _ => pg_name (i := 1) sc_start.nd rfl (Or.inl rfl)) (fun _ _ _ _ _ => pts_one (pt_cmpR op_ge (pe_callB call_abs (by rfl) T.n_abs (by decide +kernel) (pa_cons (pv 1) pa_nil)) (pe_op op_pow pe_int pe_int) (nomark _))) (fun _ _ _ _ _ => (pe_callB call_abs (by rfl) T.n_abs (by decide +kernel) (pa_cons (pv 1) pa_nil)))) (pa_cons (pe_op op_cat (pe_callTy call_list_of (by rfl) T.n_list (by decide +kernel) (pa_cons (pv 0) pa_nil)) (pe_lst (pa_cons pe_int pa_nil))) (pa_cons pe_int pa_nil)))))), ?_⟩
    refine ⟨_, rfl, a, rfl, ⟨_, hS⟩, fun D hD => ?_⟩
    refine lc_list (K := K) (a := a) (xs := ns.map V.int) (fun i H1 => ∃ gs : List Int, gs.length ≤ i ∧ H1 D = some (.lst (gs.map V.int)) ∧ Same H H1) ⟨[], Nat.le_refl _, upd_same, same_upd hD⟩ (fun i H1 _ ⟨_, _, _, sm⟩ => sm.seq hS) ?_ ?_
    · intro i x H1 hi ⟨gs, hg, eD, sm⟩
      obtain ⟨z, rfl⟩ : ∃ z, x = V.int z := by
        rw [List.getElem?_map] at hi
        cases e : ns[i]? with
        | none =>
          rw [e] at hi
          cases hi
        | some z =>
          rw [e] at hi
          exact ⟨z, (Option.some.inj hi).symm⟩
      have hi63 : i < 63 := by
        have := (List.getElem?_eq_some_iff.mp hi).1
        rw [List.length_map] at this
        omega
      refine ⟨rfl, _, rfl, z, rfl, 10, 18, rfl, rfl, ⟨by decide, by decide, by decide⟩, _, _, rfl, rfl, _, rfl, ?_⟩
      refine ite2 (fun _ => ?_) fun _ => ?_
      · refine ⟨_, rfl, z, rfl, gs.map V.int, eD, small1000 (by rw [List.length_map]; omega), gs ++ [if z < 0 then -z else z], by rw [List.length_append]; exact Nat.add_le_add_right hg 1, ?_, same_mut sm hD⟩
        rw [upd_same, List.map_append]
        rfl
      · exact ⟨gs, Nat.le_succ_of_le hg, eD, sm⟩
    · intro H1 ⟨gs, hg, eD, sm⟩
      refine ⟨_, rfl, a, _, rfl, .inl (sm.seq hS), fun l hl => ?_⟩
      refine ⟨by show 1 ≤ sizeLine; decide, fun o ho => ?_⟩
      have nlo : l ≠ o := fun e => by
        rw [← e, upd_same] at ho
        cases ho
      refine ⟨l, o, _, _, rfl, rfl, by rw [upd_ne nlo]; exact upd_same, upd_same, Nat.le_of_lt (small1000 ?_), fun c hc => ?_⟩
      · rw [List.length_map]
        show ns.length + 1 ≤ 1000
        omega
      refine ⟨by show 3 ≤ sizeLine; decide, fun st hst => ?_⟩
      have eDo : (upd (upd H1 l (.lst (ns.map V.int))) o (.lst [V.int 5])) D = some (.lst (gs.map V.int)) := same_upd ho _ _ (same_upd hl _ _ eD)
      have nDc : D ≠ c := ne_of_none eDo hc
      have hcs := hst
      have ncst : c ≠ st := fun e => by
        rw [← e, upd_same] at hst
        cases hst
      have nDst : D ≠ st := ne_of_none (same_upd hc _ _ eDo) hst
      have sm4 : Same H (upd (upd (upd H1 l (.lst (ns.map V.int))) o (.lst [V.int 5])) c (.lst (ns.map V.int ++ [V.int 5]))) := ((sm.trans (same_upd hl)).trans (same_upd ho)).trans (same_upd hc)
      refine k st _ ⟨D, c, gs, ns ++ [5], 0, ⟨sm4.trans (same_upd hst), sm4.free hst, hD, ((sm.trans (same_upd hl)).trans (same_upd ho)).free hc, upd_same, ?_, ?_, nDc, by rw [List.length_append]; exact Nat.succ_pos _⟩, Nat.le_refl _⟩
      · rw [upd_ne nDst]
        exact same_upd hc _ _ eDo
      · rw [upd_ne ncst, upd_same, List.map_append]
        rfl

theorem ok_draw (T : Txt K mg) : FnOk P w K mg base CX0 1 T.f_draw T.d_draw ["_law_state", "_law_size"] spDraw := by
  refine T.F_draw.ok sc_draw (fun vs H Q E h => ?_) (fun cdv A outer s H vs Q E hr h => ?_)
  · obtain ⟨G, a, m, sz, rfl, _⟩ := h
    rfl
  · obtain ⟨G, a, m, sz, rfl, ⟨b0, c, gs0, cs, n, d0, hn⟩, hm, hs0, hs2, k⟩ := h
    refine ⟨_, (pss_cons (ps_augS (pv 0) pe_int get_list pe_int ip_add set_list)
    (C8.pss_cut (ps_while PassesOwn.never (PW.pt (pw_and (pt_cmpR (op_neD hr.units) (pe_ix ix_list (pv 0) pe_int (fun _ _ => rfl)) (pe_lst pa_nil) (nomark _)) (pw_and1 (pt_cmpR op_eq (pe_ix ix_list (pe_ix ix_list (pv 0) pe_int (fun _ _ => rfl)) pe_int (fun _ _ => rfl)) pe_int (nomark _)))))
      (pss_one (ps_asg (pe_slice sl_list (pe_ix ix_list (pv 0) pe_int (fun _ _ => rfl)) (po_some pe_int) po_none) (pg_sub (pv 0) pe_int set_list))))
    (pss_cons (ps_if (pt_cmpR (op_neD hr.units) (pe_ix ix_list (pv 0) pe_int (fun _ _ => rfl)) (pe_lst pa_nil) (nomark _))
      (pss_cons (ps_set (i := 2) sc_draw.nd rfl (Or.inl rfl) (pe_op op_mod (pe_callTy call_int1 (by rfl) T.n_int (by decide +kernel) (pa_cons (pe_ix ix_list (pe_ix ix_list (pv 0) pe_int (fun _ _ => rfl)) pe_int (fun _ _ => rfl)) pa_nil)) (pv 1)))
    (pss_cons (ps_asg (pe_op op_fdivW (pe_ix ix_list (pe_ix ix_list (pv 0) pe_int (fun _ _ => rfl)) pe_int (fun _ _ => rfl)) (pv 1)) (pg_sub (pe_ix ix_list (pv 0) pe_int (fun _ _ => rfl)) pe_int set_list))
    (pss_one (ps_ret (pv 2)))))
      pss_nil)
    (pss_cons (ps_set (i := 3) sc_draw.nd rfl (Or.inl rfl) (pe_op op_mod (pe_callTy call_int1 (by rfl) T.n_int (by decide +kernel) (pa_cons (pe_ix ix_list (pe_ix ix_list (pv 0) pe_int (fun _ _ => rfl)) (pe_op op_mod (pe_callTy call_int1 (by rfl) T.n_int (by decide +kernel) (pa_cons (pe_ix ix_list (pv 0) pe_int (fun _ _ => rfl)) pa_nil)) (pe_callB call_len_seq (by rfl) T.n_len (by decide +kernel) (pa_cons (pe_ix ix_list (pv 0) pe_int (fun _ _ => rfl)) pa_nil))) (fun _ _ => rfl)) pa_nil)) pe_int))
    (pss_cons (ps_set (i := 4) sc_draw.nd rfl (Or.inl rfl) (pe_op op_mod (pe_callTy call_int1 (by rfl) T.n_int (by decide +kernel) (pa_cons (pe_op op_pow (pe_op op_add (pe_op op_add (pe_op op_mul (pv 3) pe_int) (pe_op op_mul (pe_ix ix_list (pv 0) pe_int (fun _ _ => rfl)) pe_int)) pe_int) pe_int) pa_nil)) pe_int))
    (pss_one (ps_ret (pe_op op_mod (pe_op op_mod (pe_callTy call_int1 (by rfl) T.n_int (by decide +kernel) (pa_cons (pe_op op_pow (pe_op op_add (pe_op op_add (pe_op op_mul (pv 4) pe_int) (pe_op op_mul (pe_ix ix_list (pv 0) pe_int (fun _ _ => rfl)) pe_int)) pe_int) pe_int) pa_nil)) pe_int) (pv 1))))))))), ?_⟩
    -- the count
    refine ⟨_, rfl, a, _, 2, _, rfl, rfl, SqL.of d0.hs, by decide, rfl, (n : Int), 1, rfl, rfl, a, _, 2, 2, rfl, rfl, d0.hs, rfl, ?_⟩
    have d1 : DS G (upd H a (.lst [V.ref b0, V.ref c, V.int ((n + 1 : Nat) : Int)])) a b0 c gs0 cs (n + 1) :=
      ⟨same_mut d0.same d0.fs, d0.fs, d0.fb, d0.fc, upd_same, by rw [upd_ne d0.sb.symm]; exact d0.hb, by rw [upd_ne d0.sc.symm]; exact d0.hc, d0.ne, d0.pos⟩
    -- the noughts ahead go
    refine ⟨fun σ H2 => σ = [some (.ref a), some (.int sz), none, none, none] ∧ ∃ (b : Addr) (gs : List Int), DS G H2 a b c gs cs (n + 1), ?_, ?_⟩
    · refine ⟨fun j σ H2 => σ = [some (.ref a), some (.int sz), none, none, none] ∧ ∃ (b : Addr) (gs : List Int), gs.length = j ∧ DS G H2 a b c gs cs (n + 1), ⟨_, rfl, b0, gs0, rfl, d1⟩, ?_⟩
      rintro j σ H2 ⟨rfl, b, gs, rfl, d⟩
      refine ⟨_, rfl, a, _, 0, _, rfl, rfl, SqL.of d.hs, rfl, Nat.zero_le _, fun p hp => ?_⟩
      have sp : Same H2 (upd H2 p (.lst [])) := same_upd hp
      have d2 : DS G (upd H2 p (.lst [])) a b c gs cs (n + 1) := ⟨d.same.trans sp, d.fs, d.fb, d.fc, sp _ _ d.hs, sp _ _ d.hb, sp _ _ d.hc, d.ne, d.pos⟩
      cases gs with
      | nil =>
        refine ⟨.list [], .list [], .lst (SqL.of d2.hb) .nil, .lst (SqL.of upd_same) .nil, shaped_ints [], shaped_ints [], false, by simp [PyData.eqv, PyData.eqvAll], iteF (iteF (⟨rfl, b, [], d2⟩))⟩
      | cons g r =>
        refine ⟨.list ((g :: r).map PyData.int), .list [], .lst (SqL.of d2.hb) (dp_ints _), .lst (SqL.of upd_same) .nil, shaped_ints _, shaped_ints [], true, by simp [PyData.eqv, PyData.eqvAll], iteT ?_⟩
        refine ⟨_, rfl, a, _, 0, _, rfl, rfl, SqL.of d2.hs, rfl, b, _, 0, .int g, rfl, rfl, SqL.of d2.hb, at0, rfl, _, rfl, ite2 (fun _ => ?_) fun _ => ⟨rfl, b, _, d2⟩⟩
        -- state[0] = state[0][1:]
        refine ⟨fun σ H3 => σ = [some (.ref a), some (.int sz), none, none, none] ∧ ∃ (b : Addr) (gs : List Int), gs.length = r.length ∧ DS G H3 a b c gs cs (n + 1), fun σ' H' h' => ⟨r.length, Nat.lt_succ_self _, h'⟩, ?_⟩
        refine ⟨_, rfl, a, _, 0, _, rfl, rfl, SqL.of d2.hs, rfl, 1, rfl, b, _, rfl, SqL.of d2.hb, fun q hq => ?_⟩
        have n1 : a ≠ q := ne_of_none d2.hs hq
        have n3 : c ≠ q := ne_of_none d2.hc hq
        refine ⟨_, rfl, a, _, 0, 0, rfl, rfl, by rw [upd_ne n1]; exact d2.hs, rfl, rfl, q, r, rfl, ?_⟩
        exact ⟨same_mut (d2.same.trans (same_upd hq)) d2.fs, d2.fs, d2.same.free hq, d2.fc, upd_same, by rw [upd_ne n1.symm, upd_same, cut1]; rfl, by rw [upd_ne d2.sc.symm, upd_ne n3]; exact d2.hc, n3.symm, d2.pos⟩
    · rintro σ H2 ⟨rfl, b, gs, d⟩
      refine ⟨_, rfl, a, _, 0, _, rfl, rfl, SqL.of d.hs, rfl, Nat.zero_le _, fun p hp => ?_⟩
      have sp : Same H2 (upd H2 p (.lst [])) := same_upd hp
      have d2 : DS G (upd H2 p (.lst [])) a b c gs cs (n + 1) := ⟨d.same.trans sp, d.fs, d.fb, d.fc, sp _ _ d.hs, sp _ _ d.hb, sp _ _ d.hc, d.ne, d.pos⟩
      cases gs with
      | cons g r =>
        refine ⟨.list ((g :: r).map PyData.int), .list [], .lst (SqL.of d2.hb) (dp_ints _), .lst (SqL.of upd_same) .nil, shaped_ints _, shaped_ints [], true, by simp [PyData.eqv, PyData.eqvAll], iteT ?_⟩
        refine ⟨_, rfl, a, _, 0, _, rfl, rfl, SqL.of d2.hs, rfl, b, _, 0, .int g, rfl, rfl, SqL.of d2.hb, at0, .inl ⟨g, rfl, ?_⟩⟩
        refine ⟨_, rfl, g, sz, rfl, rfl, hs0, ?_⟩
        refine ⟨_, rfl, a, _, 0, _, rfl, rfl, SqL.of d2.hs, rfl, b, _, 0, .int g, rfl, rfl, SqL.of d2.hb, at0, _, rfl, g, sz, rfl, rfl, wide_div (b := 200) hs0 (by omega) (by decide) (by decide), ?_⟩
        refine ⟨_, rfl, a, _, 0, _, rfl, rfl, SqL.of d2.hs, rfl, b, _, 0, 0, rfl, rfl, d2.hb, ix0 (Nat.succ_pos _), ?_⟩
        refine ⟨_, rfl, k _ _ (Int.emod_nonneg _ (by omega)) (Int.emod_lt_of_pos _ hs0) ⟨b, c, g / sz :: r, cs, n + 1, ?_, Nat.succ_le_succ hn⟩⟩
        exact ⟨same_mut d2.same d2.fb, d2.fs, d2.fb, d2.fc, by rw [upd_ne d2.sb]; exact d2.hs, upd_same, by rw [upd_ne d2.ne.symm]; exact d2.hc, d2.ne, d2.pos⟩
      | nil =>
        refine ⟨.list [], .list [], .lst (SqL.of d2.hb) .nil, .lst (SqL.of upd_same) .nil, shaped_ints [], shaped_ints [], false, by simp [PyData.eqv, PyData.eqvAll], iteF ?_⟩
        have hl : (0 : Int) < (cs.length : Int) := by have := d.pos; omega
        have i0 : 0 ≤ ((n + 1 : Nat) : Int) % (cs.length : Int) := Int.emod_nonneg _ (by omega)
        have i1 : ((n + 1 : Nat) : Int) % (cs.length : Int) < (cs.length : Int) := Int.emod_lt_of_pos _ hl
        obtain ⟨j, ej⟩ : ∃ j : Nat, ((n + 1 : Nat) : Int) % (cs.length : Int) = (j : Int) := ⟨(((n + 1 : Nat) : Int) % (cs.length : Int)).toNat, by omega⟩
        have hj : j < cs.length := by omega
        refine ⟨_, rfl, a, _, 1, _, rfl, rfl, SqL.of d2.hs, rfl, _, rfl, a, _, 2, _, rfl, rfl, SqL.of d2.hs, rfl, .inl ⟨_, rfl, ?_⟩⟩
        refine ⟨_, rfl, a, _, 1, _, rfl, rfl, SqL.of d2.hs, rfl, c, _, rfl, .inl (SqL.of d2.hc), _, _, rfl, rfl, by rw [List.length_map]; exact hl, ?_⟩
        refine ⟨c, _, _, .int cs[j], rfl, rfl, SqL.of d2.hc, by rw [List.length_map]; exact at_of ej (by rw [List.getElem?_map, List.getElem?_eq_getElem hj]; rfl), .inl ⟨_, rfl, _, _, rfl, rfl, big1, ?_⟩⟩
        have c0 : 0 ≤ cs[j] % 2147483647 := Int.emod_nonneg _ (by decide)
        have c1 : cs[j] % 2147483647 < 2147483647 := Int.emod_lt_of_pos _ (by decide)
        refine ⟨_, rfl, _, _, rfl, rfl, .inr ⟨by decide, by decide⟩, _, rfl, a, _, 2, _, rfl, rfl, SqL.of d2.hs, rfl, _, _, rfl, rfl, .inr ⟨by decide, by decide⟩, _, _, rfl, rfl, _, _, rfl, rfl, _, _, rfl, rfl, ⟨by decide, by decide, pow_lt _ _ c0 c1 (by omega) (by omega)⟩, .inl ⟨_, rfl, _, _, rfl, rfl, big1, ?_⟩⟩
        have e0 : ∀ z : Int, 0 ≤ z % 2147483647 := fun z => Int.emod_nonneg _ (by decide)
        have e1 : ∀ z : Int, z % 2147483647 < 2147483647 := fun z => Int.emod_lt_of_pos _ (by decide)
        refine ⟨_, rfl, _, _, rfl, rfl, .inr ⟨by decide, by decide⟩, _, rfl, a, _, 2, _, rfl, rfl, SqL.of d2.hs, rfl, _, _, rfl, rfl, .inr ⟨by decide, by decide⟩, _, _, rfl, rfl, _, _, rfl, rfl, _, _, rfl, rfl, ⟨by decide, by decide, pow_lt2 _ _ (e0 _) (e1 _) (by omega) (by omega)⟩, .inl ⟨_, rfl, _, _, rfl, rfl, big2, ?_⟩⟩
        refine ⟨_, rfl, _, sz, rfl, rfl, hs0, ?_⟩
        exact k _ _ (Int.emod_nonneg _ (by omega)) (Int.emod_lt_of_pos _ hs0) ⟨b, c, [], cs, n + 1, d2, Nat.succ_le_succ hn⟩
end

/-! ### ratios -/
section
variable {P : Program} {w : World} {K : PySem.W.Frag} {mg : Str → Option Value} {base : Heap}
/-- a ratio's attributes -/
def rf (t b : Int) : List (Str × V) := [("_top", .int t), ("_bottom", .int b)]
theorem rf_top (t b : Int) : (rf t b).lookup ("_top" : Str) = some (.int t) := by simp [rf, List.lookup]
theorem nTB : (("_bottom" : Str) == ("_top" : Str)) = false := by decide +kernel
theorem nBT : (("_top" : Str) == ("_bottom" : Str)) = false := by decide +kernel
theorem rf_bottom (t b : Int) : (rf t b).lookup ("_bottom" : Str) = some (.int b) := by simp [rf, List.lookup, nTB]
def RatAt (C : Addr) (H : Hp) (p : Addr) (t b : Int) : Prop := ∃ dx, H p = some (.ins C dx (rf t b))
/-- the divisor -/
def dvs (t b : Int) : Int := if b < 0 then -((Nat.gcd t.natAbs b.natAbs : Nat) : Int) else ((Nat.gcd t.natAbs b.natAbs : Nat) : Int)
def lowT (t b : Int) : Int := t.fdiv (dvs t b)
def lowB (t b : Int) : Int := b.fdiv (dvs t b)
def BIG (z : Int) : Prop := z.natAbs < 2 ^ 8000
theorem dvs_ne {t b : Int} (h : b ≠ 0) : dvs t b ≠ 0 := by
  have hg : 0 < Nat.gcd t.natAbs b.natAbs := Nat.gcd_pos_of_pos_right _ (by omega)
  unfold dvs
  split <;> omega
theorem dvs_le {t b : Int} (h : b ≠ 0) : (dvs t b).natAbs ≤ b.natAbs := by
  have hg : Nat.gcd t.natAbs b.natAbs ≤ b.natAbs := Nat.le_of_dvd (by omega) (Nat.gcd_dvd_right _ _)
  unfold dvs
  split <;> omega
/-- Ratio(t, b), b not 0 -/
def spInit (C : Addr) : Sp := fun vs H Q _ => ∃ (p dx : Addr) (t b : Int), vs = [.ref p, .int t, .int b] ∧ H p = some (.ins C dx []) ∧ b ≠ 0 ∧ BIG b ∧ ∀ H', RatAt C H' p (lowT t b) (lowB t b) → (∀ a o, H a = some o → a ≠ p → H' a = some o) → Q .non H'
theorem ok_init (T : Txt K mg) : FnOk P w K mg base CX0 1 T.f_Ratio_init T.d_Ratio_init ["self", "top", "bottom"] (spInit T.f_Ratio) := by
  refine T.F_Ratio_init.ok sc_Ratio_init (fun vs H Q E h => ?_) (fun cdv A outer s H vs Q E hr h => ?_)
  · obtain ⟨p, dx, t, b, rfl, _⟩ := h
    rfl
  · obtain ⟨p, dx, t, b, rfl, hp, hb, hB, k⟩ := h
    refine ⟨_, PSs.nox (pss_cons (ps_if (pt_cmpR op_eq (pv 2) pe_int (nomark _))
      (pss_one ps_never)
      pss_nil)
    (pss_cons (ps_set (i := 3) sc_Ratio_init.nd rfl (Or.inl rfl) (pe_callBfun cr_gcd rfl T.g_gcd (pa_cons (pv 1) (pa_cons (pv 2) pa_nil))))
    (C8.pss_cut (ps_if (pt_cmpR op_lt (pv 2) pe_int (nomark _))
      (pss_one (ps_set (i := 3) sc_Ratio_init.nd rfl (Or.inl rfl) (pe_un un_neg (pv 3))))
      pss_nil)
    (pss_cons (ps_fld (pv 0) (pe_op op_fdivZ (pv 1) (pv 3)) rfl)
    (pss_one (ps_fld (pv 0) (pe_op op_fdivZ (pv 2) (pv 3)) rfl)))))), ?_⟩
    refine ⟨_, rfl, rfl, _, rfl, ite2 (fun h0 => ?_) fun _ => ?_⟩
    · have e : V.int b = V.int 0 := of_decide_eq_true h0
      injection e with e
      exact absurd e hb
    refine ⟨_, rfl, _, rfl, t, b, rfl, ?_⟩
    refine ⟨fun σ H' => σ = [some (.ref p), some (.int t), some (.int b), some (.int (dvs t b))] ∧ H' = H, ?_, ?_⟩
    · refine ⟨_, rfl, b, 0, rfl, rfl, _, rfl, ite2 (fun h0 => ?_) fun h0 => ?_⟩
      · have h0' : b < 0 := of_decide_eq_true h0
        refine ⟨_, rfl, _, rfl, ?_, rfl⟩
        unfold dvs
        rw [if_pos h0']
        rfl
      · have h0' : ¬ b < 0 := fun q => h0 (decide_eq_true q)
        refine ⟨?_, rfl⟩
        unfold dvs
        rw [if_neg h0']
        rfl
    · rintro σ H' ⟨rfl, rfl⟩
      have hz : CDivZ t (dvs t b) := cdivZ (dvs_ne hb) (Nat.lt_of_le_of_lt (dvs_le hb) hB)
      have hz2 : CDivZ b (dvs t b) := cdivZ (dvs_ne hb) (Nat.lt_of_le_of_lt (dvs_le hb) hB)
      refine ⟨_, rfl, _, rfl, t, _, rfl, rfl, hz, _, rfl, p, T.f_Ratio, dx, [], rfl, hp, T.cl_Ratio, T.na_Ratio_top, (by show 0 < 1000; decide), ?_⟩
      refine ⟨_, rfl, _, rfl, b, _, rfl, rfl, hz2, _, rfl, p, T.f_Ratio, dx, _, rfl, upd_same, T.cl_Ratio, T.na_Ratio_bottom, (by show 1 < 1000; decide), ?_⟩
      refine k _ ⟨dx, Eq.trans upd_same ?_⟩ fun a o e ha => by rw [upd_ne ha, upd_ne ha]; exact e
      show some (HO.ins T.f_Ratio dx (if ("_top" : Str) = "_bottom" then _ else _)) = _
      rw [if_neg (by decide +kernel)]
      rfl
/-- the properties -/
def spTop (C : Addr) : Sp := fun vs H Q _ => ∃ (p : Addr) (t b : Int), vs = [.ref p] ∧ RatAt C H p t b ∧ Q (.int t) H
def spBottom (C : Addr) : Sp := fun vs H Q _ => ∃ (p : Addr) (t b : Int), vs = [.ref p] ∧ RatAt C H p t b ∧ Q (.int b) H
def sgnI (t : Int) : Int := if t < 0 then -1 else if 0 < t then 1 else 0
def spSign (C : Addr) : Sp := fun vs H Q _ => ∃ (p : Addr) (t b : Int), vs = [.ref p] ∧ RatAt C H p t b ∧ Q (.int (sgnI t)) H
theorem ok_top (T : Txt K mg) : FnOk P w K mg base CX0 1 T.f_Ratio_top T.d_Ratio_top ["self"] (spTop T.f_Ratio) := by
  refine T.F_Ratio_top.ok sc_Ratio_top (fun vs H Q E h => ?_) (fun cdv A outer s H vs Q E hr h => ?_)
  · obtain ⟨p, t, b, rfl, _⟩ := h
    rfl
  · obtain ⟨p, t, b, rfl, ⟨dx, hp⟩, k⟩ := h
    refine ⟨_, (pss_one (ps_ret (pe_fld (pv 0) rfl))), ?_⟩
    exact ⟨_, rfl, p, T.f_Ratio, dx, _, _, rfl, hp, T.cl_Ratio, T.na_Ratio_top, rf_top _ _, k⟩
theorem ok_bottom (T : Txt K mg) : FnOk P w K mg base CX0 1 T.f_Ratio_bottom T.d_Ratio_bottom ["self"] (spBottom T.f_Ratio) := by
  refine T.F_Ratio_bottom.ok sc_Ratio_bottom (fun vs H Q E h => ?_) (fun cdv A outer s H vs Q E hr h => ?_)
  · obtain ⟨p, t, b, rfl, _⟩ := h
    rfl
  · obtain ⟨p, t, b, rfl, ⟨dx, hp⟩, k⟩ := h
    refine ⟨_, (pss_one (ps_ret (pe_fld (pv 0) rfl))), ?_⟩
    exact ⟨_, rfl, p, T.f_Ratio, dx, _, _, rfl, hp, T.cl_Ratio, T.na_Ratio_bottom, rf_bottom _ _, k⟩
theorem ok_sign (T : Txt K mg) : FnOk P w K mg base CX0 1 T.f_Ratio_sign T.d_Ratio_sign ["self"] (spSign T.f_Ratio) := by
  refine T.F_Ratio_sign.ok sc_Ratio_sign (fun vs H Q E h => ?_) (fun cdv A outer s H vs Q E hr h => ?_)
  · obtain ⟨p, t, b, rfl, _⟩ := h
    rfl
  · obtain ⟨p, t, b, rfl, ⟨dx, hp⟩, k⟩ := h
    refine ⟨_, (pss_cons (ps_if (pt_cmpR op_lt (pe_fld (pv 0) rfl) pe_int (nomark _))
      (pss_one (ps_ret (pe_un un_neg pe_int)))
      pss_nil)
    (pss_one (ps_ret (pe_ifExp (pt_cmpR op_gt (pe_fld (pv 0) rfl) pe_int (nomark _)) pe_int pe_int)))), ?_⟩
    refine ⟨_, rfl, p, T.f_Ratio, dx, _, _, rfl, hp, T.cl_Ratio, T.na_Ratio_top, rf_top _ _, t, 0, rfl, rfl, _, rfl, ite2 (fun h0 => ?_) fun h0 => ?_⟩
    · refine ⟨1, rfl, ?_⟩
      have e : sgnI t = -1 := if_pos (of_decide_eq_true h0)
      rw [e] at k
      exact k
    · have h0' : ¬ t < 0 := fun q => h0 (decide_eq_true q)
      refine ⟨_, rfl, p, T.f_Ratio, dx, _, _, rfl, hp, T.cl_Ratio, T.na_Ratio_top, rf_top _ _, t, 0, rfl, rfl, _, rfl, ite2 (fun h1 => ?_) fun h1 => ?_⟩
      · have e : sgnI t = 1 := (if_neg h0').trans (if_pos (of_decide_eq_true h1))
        rw [e] at k
        exact k
      · have e : sgnI t = 0 := (if_neg h0').trans (if_neg fun q => h1 (decide_eq_true q))
        rw [e] at k
        exact k
end

/-! ### texts of numbers and of ratios -/
def dec (n : Int) : Str := Str.ofString (toString n)
theorem tl_dec (n : Int) : TL.tl (dec n) = if n < 0 then 45 :: TL.numL n.natAbs else TL.numL n.natAbs := by
  cases n with
  | ofNat m => exact TL.tl_num m
  | negSucc m =>
    rw [if_pos (Int.negSucc_lt_zero m)]
    show TL.tl (Str.ofString ("-" ++ Nat.repr (m + 1))) = 45 :: TL.numL (m + 1)
    have h := TL.tl_num (m + 1)
    rw [TL.tl_ofString] at h ⊢
    rw [String.toList_append, List.map_append]
    have h' : (Nat.repr (m + 1)).toList.map Char.toNat = TL.numL (m + 1) := h
    rw [h']
    rfl
theorem dec_nn {n : Int} (h : ¬ n < 0) : TL.tl (dec n) = TL.numL n.natAbs := (tl_dec n).trans (if_neg h)
theorem dec_neg {n : Int} (h : n < 0) : TL.tl (dec n) = 45 :: TL.numL n.natAbs := (tl_dec n).trans (if_pos h)
theorem dec_len {n : Int} {k : Nat} (hk : 0 < k) (h : n.natAbs < 10 ^ k) : (dec n).length ≤ k + 1 := by
  rw [TL.len_tl, tl_dec]
  have := TL.numL_len hk h
  split
  · rw [List.length_cons]; omega
  · omega
/-- a number as it may stand before or behind a stroke -/
def numOk (l : List Nat) : Bool := decide (1 ≤ l.length ∧ l.length ≤ 9) && (!(decide (l.head? = some 48) && !decide (l = [48])) && l.all fun c => decide (48 ≤ c ∧ c ≤ 57))
def stripL : List Nat → List Nat
  | [] => []
  | c :: r => if c = 45 then r else c :: r
def negL (l : List Nat) : Bool := decide (l.head? = some 45)
def frontL (l : List Nat) : List Nat := (stripL l).takeWhile fun c => c != 47
def backL (l : List Nat) : List Nat := match (stripL l).dropWhile fun c => c != 47 with
  | [] => [49]
  | _ :: b => b
def goodL (l : List Nat) : Bool := numOk (frontL l) && (numOk (backL l) && !decide (backL l = [48]))
def topL (l : List Nat) : Int := if negL l then -((NumText.digitsVal (frontL l) : Nat) : Int) else ((NumText.digitsVal (frontL l) : Nat) : Int)
def botL (l : List Nat) : Int := ((NumText.digitsVal (backL l) : Nat) : Int)
theorem numOk_len {l : List Nat} (h : numOk l = true) : 1 ≤ l.length ∧ l.length ≤ 9 := of_decide_eq_true (Bool.and_eq_true_iff.mp h).1
theorem numOk_all {l : List Nat} (h : numOk l = true) : NumText.AllDigits l := fun c hc => of_decide_eq_true (List.all_eq_true.mp (Bool.and_eq_true_iff.mp (Bool.and_eq_true_iff.mp h).2).2 c hc)
theorem fold_ge (l : List Nat) : ∀ a : Nat, a ≤ l.foldl (fun acc c => acc * 10 + (c - 48)) a := by
  induction l with
  | nil => intro a; exact Nat.le_refl _
  | cons c r ih =>
    intro a
    have := ih (a * 10 + (c - 48))
    show a ≤ r.foldl _ (a * 10 + (c - 48))
    omega
theorem fold_lt (l : List Nat) (h : NumText.AllDigits l) : ∀ a : Nat, l.foldl (fun acc c => acc * 10 + (c - 48)) a < (a + 1) * 10 ^ l.length := by
  induction l with
  | nil => intro a; simp
  | cons c r ih =>
    intro a
    have hc := h.head
    have h1 := ih h.tail (a * 10 + (c - 48))
    show r.foldl _ (a * 10 + (c - 48)) < (a + 1) * 10 ^ (r.length + 1)
    have h2 : (a * 10 + (c - 48) + 1) * 10 ^ r.length ≤ ((a + 1) * 10) * 10 ^ r.length := Nat.mul_le_mul_right _ (by omega)
    have h3 : ((a + 1) * 10) * 10 ^ r.length = (a + 1) * 10 ^ (r.length + 1) := by rw [Nat.pow_succ, Nat.mul_assoc, Nat.mul_comm 10]
    omega
theorem val_lt {l : List Nat} (h : numOk l = true) : NumText.digitsVal l < 10 ^ 9 := by
  have h1 := fold_lt l (numOk_all h) 0
  have h2 : (0 + 1) * 10 ^ l.length ≤ 10 ^ 9 := by
    rw [Nat.zero_add, Nat.one_mul]
    exact Nat.pow_le_pow_right (by decide) (numOk_len h).2
  exact Nat.lt_of_lt_of_le h1 h2
theorem val_ne {l : List Nat} (h : numOk l = true) (h0 : l ≠ [48]) : NumText.digitsVal l ≠ 0 := by
  cases l with
  | nil => exact absurd (numOk_len h).1 (by decide)
  | cons c r =>
    have hc := (numOk_all h).head
    have h1 : c ≠ 48 := fun e => by
      have h2 := (Bool.and_eq_true_iff.mp (Bool.and_eq_true_iff.mp h).2).1
      rw [e, decide_eq_true (show (48 :: r).head? = some 48 from rfl), Bool.true_and, Bool.not_not] at h2
      exact h0 (by rw [e]; exact of_decide_eq_true h2)
    have h3 := fold_ge r (0 * 10 + (c - 48))
    show r.foldl _ (0 * 10 + (c - 48)) ≠ 0
    omega
theorem bot_ne {l : List Nat} (h : goodL l = true) : botL l ≠ 0 := by
  have h1 := (Bool.and_eq_true_iff.mp (Bool.and_eq_true_iff.mp h).2)
  have h2 : backL l ≠ [48] := by simpa using h1.2
  have := val_ne h1.1 h2
  unfold botL
  omega
theorem bot_big {l : List Nat} (h : goodL l = true) : BIG (botL l) := by
  have h1 := (Bool.and_eq_true_iff.mp (Bool.and_eq_true_iff.mp h).2)
  have := val_lt h1.1
  show (botL l).natAbs < 2 ^ 8000
  unfold botL
  rw [Int.natAbs_natCast]
  exact Nat.lt_of_lt_of_le this (by decide +kernel)
theorem reads {l : List Nat} (h : numOk l = true) : PySem.intText? ⟨l.toArray⟩ = some ((NumText.digitsVal l : Nat) : Int) := by
  have hl := numOk_len h
  have := PySem.intText_digits (x := ⟨l.toArray⟩) (by show NumText.AllDigits l; exact numOk_all h) (by show l ≠ []; intro e; rw [e] at hl; exact absurd hl.1 (by decide)) (by show l.toArray.size ≤ 4300; rw [List.size_toArray]; omega)
  exact this
/-! the text's methods -/
def dash : Str := "-"
def stroke : Str := "/"
theorem tl_dash : TL.tl dash = [45] := by decide +kernel
theorem tl_stroke : TL.tl stroke = [47] := by decide +kernel
theorem dash_eq : dash = ⟨#[45]⟩ := TL.ext_tl tl_dash
theorem strip_eq (z : Str) : Txt.removeprefix z dash = ⟨(stripL (TL.tl z)).toArray⟩ := by
  rw [← TL.mk_tl z, dash_eq]
  generalize TL.tl z = l
  cases l with
  | nil => rfl
  | cons c r =>
    unfold Txt.removeprefix stripL
    by_cases h : c = 45
    · subst h
      have e : Builtin.Str.subAt ⟨(45 :: r).toArray⟩ ⟨#[45]⟩ 0 = true := by
        show ((45 :: r).toArray.extract 0 (0 + 1) == #[45]) = true
        simp
      rw [e, if_pos rfl]
      show (if ((⟨(45 :: r).toArray⟩ : Str).length - 1 == (⟨(45 :: r).toArray⟩ : Str).length) = true then _ else _) = _
      rw [if_neg (by
        show ¬ (((45 :: r).toArray.size - 1 == (45 :: r).toArray.size) = true)
        rw [List.size_toArray, List.length_cons]
        simp)]
      refine TL.ext_tl ?_
      show TL.tl (Builtin.Str.strSub ⟨(45 :: r).toArray⟩ 1 (⟨(45 :: r).toArray⟩ : Str).length) = _
      rw [TL.tl_strSub_end]
      rfl
    · have e : Builtin.Str.subAt ⟨(c :: r).toArray⟩ ⟨#[45]⟩ 0 = false := by
        show ((c :: r).toArray.extract 0 (0 + 1) == #[45]) = false
        simp [h]
      rw [e, if_neg Bool.false_ne_true]
      show (⟨(c :: r).toArray⟩ : Str) = _
      simp [h]
theorem starts_eq (z : Str) : Txt.startswith z dash = negL (TL.tl z) := by
  rw [← TL.mk_tl z, dash_eq]
  generalize TL.tl z = l
  unfold Txt.startswith negL
  cases l with
  | nil => rfl
  | cons c r =>
    have e1 : decide (0 + (⟨#[45]⟩ : Str).length ≤ (⟨(c :: r).toArray⟩ : Str).length) = true := by
      refine decide_eq_true ?_
      show 0 + 1 ≤ (c :: r).toArray.size
      rw [List.size_toArray, List.length_cons]
      omega
    rw [e1, Bool.true_and]
    show ((c :: r).toArray.extract 0 (0 + 1) == #[45]) = decide (some c = some 45)
    by_cases h : c = 45
    · subst h; simp
    · simp [h]
theorem span_none {l : List Nat} (h : 47 ∉ l) : l.takeWhile (fun c => c != 47) = l ∧ l.dropWhile (fun c => c != 47) = [] := by
  induction l with
  | nil => exact ⟨rfl, rfl⟩
  | cons c r ih =>
    have h1 : c ≠ 47 := fun e => h (by rw [e]; exact List.mem_cons_self)
    have := ih fun q => h (List.mem_cons_of_mem _ q)
    rw [List.takeWhile_cons, List.dropWhile_cons]
    simp [h1, this]
theorem span_at {f b : List Nat} (h : 47 ∉ f) : (f ++ 47 :: b).takeWhile (fun c => c != 47) = f ∧ (f ++ 47 :: b).dropWhile (fun c => c != 47) = 47 :: b := by
  induction f with
  | nil => exact ⟨by simp, by simp⟩
  | cons c r ih =>
    have h1 : c ≠ 47 := fun e => h (by rw [e]; exact List.mem_cons_self)
    have := ih fun q => h (List.mem_cons_of_mem _ q)
    rw [List.cons_append, List.takeWhile_cons, List.dropWhile_cons]
    simp [h1, this]
/-- the text cut at its first stroke -/
theorem cut_eq (l : List Nat) : (∃ b, l.dropWhile (fun c => c != 47) = 47 :: b ∧ Txt.partition ⟨l.toArray⟩ stroke = (⟨(l.takeWhile fun c => c != 47).toArray⟩, stroke, ⟨b.toArray⟩)) ∨
    (l.dropWhile (fun c => c != 47) = [] ∧ l.takeWhile (fun c => c != 47) = l ∧ Txt.partition ⟨l.toArray⟩ stroke = (⟨l.toArray⟩, Str.empty, Str.empty)) := by
  by_cases h : 47 ∈ l
  · obtain ⟨f, b, e, hf⟩ : ∃ f b, l = f ++ 47 :: b ∧ 47 ∉ f := by
      induction l with
      | nil => cases h
      | cons c r ih =>
        by_cases hc : c = 47
        · exact ⟨[], r, by rw [hc]; rfl, by simp⟩
        · rcases List.mem_cons.mp h with h | h
          · exact absurd h.symm hc
          · obtain ⟨f, b, e, hf⟩ := ih h
            refine ⟨c :: f, b, by rw [e]; rfl, fun q => ?_⟩
            rcases List.mem_cons.mp q with q | q
            · exact hc q.symm
            · exact hf q
    obtain ⟨e1, e2⟩ := span_at (b := b) hf
    left
    refine ⟨b, by rw [e, e2], ?_⟩
    rw [e, e1]
    have e3 : (⟨(f ++ 47 :: b).toArray⟩ : Str) = ⟨f.toArray⟩ ++ stroke ++ ⟨b.toArray⟩ := TL.ext_tl (by rw [TL.tl_append, TL.tl_append, tl_stroke, List.append_assoc]; rfl)
    rw [e3]
    exact TL.partition_app tl_stroke hf
  · obtain ⟨e1, e2⟩ := span_none h
    exact .inr ⟨e2, e1, TL.partition_none tl_stroke h⟩
/-! a ratio's text -/
def ratText (t b : Int) : Str := if b = 1 then dec t else dec t ++ stroke ++ dec b
theorem numL_head {n : Nat} (h : (TL.numL n).head? = some 48) : TL.numL n = [48] := by
  induction n using Nat.strongRecOn with
  | _ n ih =>
    by_cases hn : n < 10
    · rw [TL.numL_lt hn] at h ⊢
      have : 48 + n = 48 := Option.some.inj h
      rw [this]
    · rw [TL.numL_step (by omega)] at h
      have h1 : (TL.numL (n / 10)).head? = some 48 := by
        cases e : TL.numL (n / 10) with
        | nil => exact absurd e (TL.numL_ne _)
        | cons c r =>
          rw [e] at h
          exact h
      have h2 := ih (n / 10) (by omega) h1
      have h3 := congrArg NumText.digitsVal h2
      rw [TL.numL_val] at h3
      have h4 : NumText.digitsVal [48] = 0 := rfl
      omega
theorem numOk_num {n : Nat} (h : n < 10 ^ 9) : numOk (TL.numL n) = true := by
  unfold numOk
  have h1 : 1 ≤ (TL.numL n).length ∧ (TL.numL n).length ≤ 9 := by
    refine ⟨?_, TL.numL_len (by decide) h⟩
    cases e : TL.numL n with
    | nil => exact absurd e (TL.numL_ne n)
    | cons c r => exact Nat.succ_pos _
  have h2 : (TL.numL n).all (fun c => decide (48 ≤ c ∧ c ≤ 57)) = true := List.all_eq_true.mpr fun c hc => decide_eq_true (TL.numL_digits n c hc)
  rw [decide_eq_true h1, h2, Bool.true_and, Bool.and_true]
  by_cases h3 : (TL.numL n).head? = some 48
  · rw [decide_eq_true (numL_head h3), Bool.not_true, Bool.and_false, Bool.not_false]
  · rw [decide_eq_false h3, Bool.false_and, Bool.not_false]
theorem num_no47 (n : Nat) : 47 ∉ TL.numL n := TL.numL_free (.inl (by decide))
theorem strip_num {n : Nat} {r : List Nat} : stripL (TL.numL n ++ r) = TL.numL n ++ r ∧ negL (TL.numL n ++ r) = false := by
  cases e : TL.numL n with
  | nil => exact absurd e (TL.numL_ne n)
  | cons c q =>
    have hc : c ≠ 45 := fun z => TL.numL_free (n := n) (s := 45) (.inl (by decide)) (by rw [e, z]; exact List.mem_cons_self)
    refine ⟨if_neg hc, decide_eq_false fun z => hc (Option.some.inj z)⟩
/-- the text of a ratio with small numbers is read back -/
theorem text_back {t b : Int} (ht : t.natAbs < 10 ^ 9) (hb0 : 0 < b) (hb : b.natAbs < 10 ^ 9) : goodL (TL.tl (ratText t b)) = true ∧ topL (TL.tl (ratText t b)) = t ∧ botL (TL.tl (ratText t b)) = b := by
  have key : ∀ r : List Nat, TL.tl (ratText t b) = TL.tl (dec t) ++ r → stripL (TL.tl (ratText t b)) = TL.numL t.natAbs ++ r ∧ negL (TL.tl (ratText t b)) = decide (t < 0) := by
    intro r e
    rw [e]
    by_cases h : t < 0
    · rw [dec_neg h, decide_eq_true h]
      exact ⟨rfl, rfl⟩
    · rw [dec_nn h, decide_eq_false h]
      exact strip_num
  have fin : frontL (TL.tl (ratText t b)) = TL.numL t.natAbs → backL (TL.tl (ratText t b)) = TL.numL b.natAbs → negL (TL.tl (ratText t b)) = decide (t < 0) → goodL (TL.tl (ratText t b)) = true ∧ topL (TL.tl (ratText t b)) = t ∧ botL (TL.tl (ratText t b)) = b := by
    intro e1 e2 e3
    refine ⟨?_, ?_, ?_⟩
    · unfold goodL
      rw [e1, e2, numOk_num ht, numOk_num hb, Bool.true_and, Bool.true_and]
      have : TL.numL b.natAbs ≠ [48] := fun q => by
        have := congrArg NumText.digitsVal q
        rw [TL.numL_val] at this
        have h4 : NumText.digitsVal [48] = 0 := rfl
        omega
      rw [decide_eq_false this, Bool.not_false]
    · unfold topL
      rw [e1, e3, TL.numL_val]
      by_cases h : t < 0
      · rw [decide_eq_true h, if_pos rfl]; omega
      · rw [decide_eq_false h, if_neg Bool.false_ne_true]; omega
    · unfold botL
      rw [e2, TL.numL_val]
      omega
  by_cases h1 : b = 1
  · have e : TL.tl (ratText t b) = TL.tl (dec t) ++ [] := by
      unfold ratText
      rw [if_pos h1, List.append_nil]
    obtain ⟨k1, k2⟩ := key [] e
    rw [List.append_nil] at k1
    obtain ⟨s1, s2⟩ := span_none (num_no47 t.natAbs)
    refine fin ?_ ?_ k2
    · unfold frontL
      rw [k1, s1]
    · unfold backL
      rw [k1, s2, h1]
      rfl
  · have e : TL.tl (ratText t b) = TL.tl (dec t) ++ (47 :: TL.numL b.natAbs) := by
      unfold ratText
      rw [if_neg h1, TL.tl_append, TL.tl_append, tl_stroke, dec_nn (n := b) (by omega), List.append_assoc]
      rfl
    obtain ⟨k1, k2⟩ := key _ e
    obtain ⟨s1, s2⟩ := span_at (b := TL.numL b.natAbs) (num_no47 t.natAbs)
    refine fin ?_ ?_ k2
    · unfold frontL
      rw [k1, s1]
    · unfold backL
      rw [k1, s2]
theorem ratText_len {t b : Int} (ht : t.natAbs < 10 ^ 64) (hb : b.natAbs < 10 ^ 64) : (ratText t b).length ≤ 200 := by
  have h1 := dec_len (by decide) ht
  have h2 := dec_len (by decide) hb
  unfold ratText
  split
  · omega
  · rw [TL.len_tl, TL.tl_append, TL.tl_append, tl_stroke, List.length_append, List.length_append, ← TL.len_tl, ← TL.len_tl]
    simp only [List.length_cons, List.length_nil]
    omega

/-! ### the functions on ratios -/
section
variable {P : Program} {w : World} {K : PySem.W.Frag} {mg : Str → Option Value} {base : Heap}
theorem made_rat {C : Addr} {H : Hp} {t b : Int} {Q : VK} {E : XK} (hb : b ≠ 0) (hB : BIG b) (k : ∀ x H', H x = none → Same H H' → RatAt C H' x (lowT t b) (lowB t b) → Q (.ref x) H') :
    ∀ x dx, H x = none → H dx = none → dx ≠ x → spInit C [.ref x, .int t, .int b] (upd (upd H dx (.own x)) x (.ins C dx [])) (fun v H2 => v = .non ∧ Q (.ref x) H2) E :=
  fun x dx nx nd _ => ⟨x, dx, t, b, rfl, upd_same, hb, hB, fun H' r st => ⟨rfl, k x H' nx (Same.made nx nd st) r⟩⟩
theorem low_one (t : Int) : lowT t 1 = t ∧ lowB t 1 = 1 := by
  have e : dvs t 1 = 1 := by
    unfold dvs
    rw [if_neg (by decide)]
    simp
  unfold lowT lowB
  rw [e]
  exact ⟨by rw [Int.fdiv_one], by decide⟩
theorem big_one : BIG 1 := by show (1 : Nat) < 2 ^ 8000; decide +kernel
theorem tyR {C : Addr} {H : Hp} {p : Addr} {t b : Int} (ic : C8.InsC K C) (r : RatAt C H p t b) : TyX K H (.ref p) (.ref C) := by
  obtain ⟨dx, hp⟩ := r
  exact .base (.ins hp ic.cl ic.ha ic.hn ic.htk ic.hm)
/-- as_ratio -/
def spAs (C : Addr) : Sp := fun vs H Q _ => (∃ t : Int, vs = [.int t] ∧ ∀ p H', H p = none → Same H H' → RatAt C H' p t 1 → Q (.ref p) H') ∨ (∃ (p : Addr) (t b : Int), vs = [.ref p] ∧ RatAt C H p t b ∧ Q (.ref p) H)
theorem ok_as (T : Txt K mg) : FnOk P w K mg base CX0 3 T.f_as_ratio T.d_as_ratio ["value"] (spAs T.f_Ratio) := by
  have G_Ratio_init : FnOk P w K mg base CX0 1 T.f_Ratio_init T.d_Ratio_init ["self", "top", "bottom"] (spInit T.f_Ratio) := ok_init T
  refine T.F_as_ratio.ok sc_as_ratio (fun vs H Q E h => ?_) (fun cdv A outer s H vs Q E hr h => ?_)
  · rcases h with ⟨t, rfl, _⟩ | ⟨p, t, b, rfl, _⟩ <;> rfl
  · refine ⟨_, (pss_cons (ps_if (pt_val (pe_callB call_isi (by rfl) T.n_isinstance (by decide +kernel) (pa_cons (pv 0) (pa_cons (pe_glob (v := .ref T.f_Ratio) rfl T.m_Ratio rfl) pa_nil))))
      (pss_one (ps_ret (pv 0)))
      pss_nil)
    (pss_one (ps_ret (pe_make T.mk_Ratio G_Ratio_init (hr.mono (by decide)) rfl T.m_Ratio T.b1_Ratio_init T.v1_Ratio_init pass0 (pa_cons (pv 0) pa_nil))))), ?_⟩
    rcases h with ⟨t, rfl, k⟩ | ⟨p, t, b, rfl, r, k⟩
    · refine ⟨_, rfl, .int t, .ref T.f_Ratio, .type "int", .ref T.f_Ratio, false, rfl, .own _, .base (.int _), T.ki_Ratio_int, false, rfl, iteF ?_⟩
      refine ⟨_, rfl, made_rat (by decide) big_one fun x H' nx sm r => ?_⟩
      rw [(low_one t).1, (low_one t).2] at r
      exact k x H' nx sm r
    · exact ⟨_, rfl, .ref p, .ref T.f_Ratio, .ref T.f_Ratio, .ref T.f_Ratio, true, rfl, .own _, tyR T.ic_Ratio r, kit_self, true, rfl, iteT ⟨_, rfl, k⟩⟩
/-- numeral of a number of at most 64 digits -/
def spNumeral : Sp := fun vs H Q _ => ∃ n : Int, vs = [.int n] ∧ n.natAbs < 10 ^ 64 ∧ ∀ H', Same H H' → Q (.str (dec n)) H'
theorem log_small {n : Int} (h : n.natAbs < 10 ^ 64) : n.natAbs.log2 < 1920 := Nat.lt_of_lt_of_le (PySem.Flt.log2_lt_of (k := 300) (by decide) (Nat.lt_of_lt_of_le h (by decide +kernel))) (by decide)
theorem abs_of (n : Int) : (if n < 0 then -n else n) = ((n.natAbs : Nat) : Int) := by split <;> omega
theorem join_two {a b : Str} : TL.tl (Txt.join ⟨#[]⟩ [a, b]) = TL.tl a ++ TL.tl b := by
  rw [TL.join_eq]
  show TL.tl (a ++ ⟨#[]⟩ ++ b) = _
  rw [TL.tl_append, TL.tl_append]
  simp [TL.tl]
theorem ok_numeral (T : Txt K mg) : FnOk P w K mg base CX0 1 T.f_numeral T.d_numeral ["number"] spNumeral := by
  refine T.F_numeral.ok sc_numeral (fun vs H Q E h => ?_) (fun cdv A outer s H vs Q E hr h => ?_)
  · obtain ⟨n, rfl, _⟩ := h
    rfl
  · obtain ⟨n, rfl, hn, k⟩ := h
    refine ⟨_, (pss_cons (ps_set (i := 1) sc_numeral.nd rfl (Or.inl rfl) (pe_callB call_abs (by rfl) T.n_abs (by decide +kernel) (pa_cons (pv 0) pa_nil)))
    (pss_cons (ps_set (i := 2) sc_numeral.nd rfl (Or.inl rfl) (pe_lst pa_nil))
    (C8.pss_cut (ps_while PassesOwn.never (pt_cmpR op_ge (pv 1) (pe_glob (v := V.int 10000000000000000000000000000000000000000000000000000000000000000) rfl T.c_PIECE ⟨_, rfl⟩) (nomark _))
      (pss_cons (ps_asg (pe_callB call_divmodW (by rfl) T.n_divmod (by decide +kernel) (pa_cons (pv 1) (pa_cons (pe_glob (v := V.int 10000000000000000000000000000000000000000000000000000000000000000) rfl T.c_PIECE ⟨_, rfl⟩) pa_nil))) (pg_tup rfl (pgs_cons (pg_name (i := 1) sc_numeral.nd rfl (Or.inl rfl)) (pgs_cons (pg_name (i := 3) sc_numeral.nd rfl (Or.inl rfl)) pgs_nil))))
    (pss_one (ps_expr (pe_bm PySem.F.plainAttrs_list PySem.F.slot_list_append PySem.F.type_list_append mt_append (pv 2) (pa_cons (pe_bm PySem.F.plainAttrs_str PySem.F.slot_str_zfill PySem.F.type_str_zfill mt_zfill (pe_callTy call_str_int (by rfl) T.n_str (by decide +kernel) (pa_cons (pv 3) pa_nil)) (pa_cons (pe_glob (v := V.int 64) rfl T.c_PIECE_DIGITS ⟨_, rfl⟩) pa_nil)) pa_nil))))))
    (pss_cons (ps_expr (pe_bm PySem.F.plainAttrs_list PySem.F.slot_list_append PySem.F.type_list_append mt_append (pv 2) (pa_cons (pe_callTy call_str_int (by rfl) T.n_str (by decide +kernel) (pa_cons (pv 1) pa_nil)) pa_nil)))
    (C8.pss_cut (ps_if (pt_cmpR op_lt (pv 0) pe_int (nomark _))
      (pss_one (ps_expr (pe_bm PySem.F.plainAttrs_list PySem.F.slot_list_append PySem.F.type_list_append mt_append (pv 2) (pa_cons pe_str pa_nil))))
      pss_nil)
    (pss_one (ps_ret (pe_join pe_str (pe_revL (pv 2)))))))))), ?_⟩
    refine ⟨_, rfl, n, rfl, ?_⟩
    rw [abs_of n]
    refine ⟨Nat.zero_le _, fun l hl => ?_⟩
    have sl : Same H (upd H l (.lst [])) := same_upd hl
    have hlt : ¬ decide ((10000000000000000000000000000000000000000000000000000000000000000 : Int) ≤ ((n.natAbs : Nat) : Int)) = true := fun q => by
      have q' : (10000000000000000000000000000000000000000000000000000000000000000 : Int) ≤ ((n.natAbs : Nat) : Int) := of_decide_eq_true q
      have : (n.natAbs : Int) < 10 ^ 64 := by exact_mod_cast hn
      have e : (10 : Int) ^ 64 = 10000000000000000000000000000000000000000000000000000000000000000 := by decide +kernel
      omega
    refine ⟨fun σ H' => σ = [some (.int n), some (.int ((n.natAbs : Nat) : Int)), some (.ref l), none] ∧ H' = upd H l (.lst []), ?_, ?_⟩
    · refine ⟨fun m σ H' => σ = [some (.int n), some (.int ((n.natAbs : Nat) : Int)), some (.ref l), none] ∧ H' = upd H l (.lst []), ⟨0, rfl, rfl⟩, ?_⟩
      rintro m σ H' ⟨rfl, rfl⟩
      refine ⟨_, rfl, _, _, rfl, rfl, _, rfl, ?_⟩
      rw [Bool.eq_false_iff.mpr hlt]
      exact iteF ⟨rfl, rfl⟩
    rintro σ H' ⟨rfl, rfl⟩
    have hl2 : (((n.natAbs : Nat) : Int)).natAbs.log2 < 1920 := by rw [Int.natAbs_natCast]; exact log_small hn
    refine ⟨_, rfl, .inl ⟨rfl, _, SqL.of upd_same⟩, _, rfl, _, rfl, hl2, l, [], _, rfl, rfl, upd_same, by decide, ?_⟩
    rw [upd_upd]
    refine ⟨fun σ H' => σ = [some (.int n), some (.int ((n.natAbs : Nat) : Int)), some (.ref l), none] ∧ H' = upd H l (.lst (if n < 0 then [.str (dec ((n.natAbs : Nat) : Int)), .str dash] else [.str (dec ((n.natAbs : Nat) : Int))])), ?_, ?_⟩
    · refine ⟨_, rfl, n, 0, rfl, rfl, _, rfl, ite2 (fun h0 => ?_) fun h0 => ?_⟩
      · have h0' : n < 0 := of_decide_eq_true h0
        refine ⟨_, rfl, .inl ⟨rfl, _, SqL.of upd_same⟩, l, _, _, rfl, rfl, upd_same, (by show 1 < sizeLine; decide), rfl, ?_⟩
        rw [upd_upd, if_pos h0']
        rfl
      · have h0' : ¬ n < 0 := fun q => h0 (decide_eq_true q)
        refine ⟨rfl, ?_⟩
        rw [if_neg h0']
        rfl
    rintro σ H' ⟨rfl, rfl⟩
    have hd : (dec ((n.natAbs : Nat) : Int)).length ≤ 65 := dec_len (by decide) (by rw [Int.natAbs_natCast]; exact hn)
    have en : ¬ ((n.natAbs : Nat) : Int) < 0 := by omega
    by_cases h0 : n < 0
    · rw [if_pos h0]
      refine ⟨⟨_, rfl⟩, _, rfl, l, _, rfl, SqL.of upd_same, fun p hp => ?_⟩
      refine ⟨⟨#[]⟩, p, [dash, dec ((n.natAbs : Nat) : Int)], rfl, rfl, .inl (SqL.of upd_same), ?_, ?_⟩
      · have e1 : dash.length = 1 := by decide +kernel
        show (dash.length + ((dec ((n.natAbs : Nat) : Int)).length + 0)) + 2 * 0 ≤ 16777216
        omega
      · have e : Txt.join ⟨#[]⟩ [dash, dec ((n.natAbs : Nat) : Int)] = dec n := TL.ext_tl (by rw [join_two, tl_dash, dec_nn en, dec_neg h0, Int.natAbs_natCast]; rfl)
        rw [e]
        exact k _ (fun a o q => by rw [upd_ne (ne_of_none (show (upd H l _) a = some o by rw [upd_ne (ne_of_none q hl)]; exact q) hp), upd_ne (ne_of_none q hl)]; exact q)
    · rw [if_neg h0]
      refine ⟨⟨_, rfl⟩, _, rfl, l, _, rfl, SqL.of upd_same, fun p hp => ?_⟩
      refine ⟨⟨#[]⟩, p, [dec ((n.natAbs : Nat) : Int)], rfl, rfl, .inl (SqL.of upd_same), ?_, ?_⟩
      · show ((dec ((n.natAbs : Nat) : Int)).length + 0) + 1 * 0 ≤ 16777216
        omega
      · have e : Txt.join ⟨#[]⟩ [dec ((n.natAbs : Nat) : Int)] = dec n := TL.ext_tl (by
          rw [TL.join_eq]
          show TL.tl (dec ((n.natAbs : Nat) : Int)) = _
          rw [dec_nn en, dec_nn h0, Int.natAbs_natCast])
        rw [e]
        exact k _ (fun a o q => by rw [upd_ne (ne_of_none (show (upd H l _) a = some o by rw [upd_ne (ne_of_none q hl)]; exact q) hp), upd_ne (ne_of_none q hl)]; exact q)
/-- str of a ratio -/
def spStr (C : Addr) : Sp := fun vs H Q _ => ∃ (p : Addr) (t b : Int), vs = [.ref p] ∧ RatAt C H p t b ∧ t.natAbs < 10 ^ 64 ∧ b.natAbs < 10 ^ 64 ∧ ∀ H', Same H H' → Q (.str (ratText t b)) H'
theorem ok_str (T : Txt K mg) : FnOk P w K mg base CX0 2 T.f_Ratio_str T.d_Ratio_str ["self"] (spStr T.f_Ratio) := by
  have G_numeral : FnOk P w K mg base CX0 1 T.f_numeral T.d_numeral ["number"] spNumeral := ok_numeral T
  refine T.F_Ratio_str.ok sc_Ratio_str (fun vs H Q E h => ?_) (fun cdv A outer s H vs Q E hr h => ?_)
  · obtain ⟨p, t, b, rfl, _⟩ := h
    rfl
  · obtain ⟨p, t, b, rfl, ⟨dx, hp⟩, ht, hb, k⟩ := h
    refine ⟨_, (pss_cons (ps_if (pt_cmpR op_eq (pe_fld (pv 0) rfl) pe_int (nomark _))
      (pss_one (ps_ret (pe_joined1 (pe_fmt (pe_call G_numeral (hr.mono (by decide)) rfl T.m_numeral T.F_numeral.kp T.b_numeral .nil pass0 (pa_cons (pe_fld (pv 0) rfl) pa_nil))))))
      pss_nil)
    (pss_one (ps_ret (pe_joined (PJ.cons (pe_fmt (pe_call G_numeral (hr.mono (by decide)) rfl T.m_numeral T.F_numeral.kp T.b_numeral .nil pass0 (pa_cons (pe_fld (pv 0) rfl) pa_nil))) (PJ.cons pe_str (PJ.cons (pe_fmt (pe_call G_numeral (hr.mono (by decide)) rfl T.m_numeral T.F_numeral.kp T.b_numeral .nil pass0 (pa_cons (pe_fld (pv 0) rfl) pa_nil))) PJ.nil))))))), ?_⟩
    have l1 := dec_len (by decide) ht
    have l2 := dec_len (by decide) hb
    refine ⟨_, rfl, p, T.f_Ratio, dx, _, _, rfl, hp, T.cl_Ratio, T.na_Ratio_bottom, rf_bottom _ _, rfl, _, rfl, ite2 (fun h1 => ?_) fun h1 => ?_⟩
    · have h1' : b = 1 := by
        have := of_decide_eq_true h1
        injection this
      refine ⟨_, rfl, p, T.f_Ratio, dx, _, _, rfl, hp, T.cl_Ratio, T.na_Ratio_top, rf_top _ _, t, rfl, ht, fun H1 s1 => .inl ⟨_, rfl, Nat.le_trans l1 (by decide), ?_⟩⟩
      have e : ratText t b = dec t := if_pos h1'
      rw [← e]
      exact k _ s1
    · have h1' : b ≠ 1 := fun q => h1 (decide_eq_true (by rw [q]))
      refine ⟨_, rfl, p, T.f_Ratio, dx, _, _, rfl, hp, T.cl_Ratio, T.na_Ratio_top, rf_top _ _, t, rfl, ht, fun H1 s1 => .inl ⟨_, rfl, Nat.le_trans l1 (by decide), _, rfl, ?_, ?_⟩⟩
      · rw [Str.empty_append]
        exact Nat.le_trans l1 (by decide)
      refine ⟨_, rfl, ?_, ?_⟩
      · rw [Str.empty_append, Str.length_append]
        have e1 : stroke.length = 1 := by decide +kernel
        show (dec t).length + stroke.length ≤ _
        exact Nat.le_trans (show _ ≤ 100 by omega) (by decide)
      refine ⟨_, rfl, p, T.f_Ratio, dx, _, _, rfl, s1 _ _ hp, T.cl_Ratio, T.na_Ratio_bottom, rf_bottom _ _, b, rfl, hb, fun H2 s2 => .inl ⟨_, rfl, Nat.le_trans l2 (by decide), _, rfl, ?_, ?_⟩⟩
      · rw [Str.empty_append, Str.length_append, Str.length_append]
        have e1 : stroke.length = 1 := by decide +kernel
        show (dec t).length + stroke.length + (dec b).length ≤ _
        exact Nat.le_trans (show _ ≤ 200 by omega) (by decide)
      · have e : ratText t b = Str.empty ++ dec t ++ stroke ++ dec b := by
          unfold ratText
          rw [if_neg h1', Str.empty_append]
        have := k _ (s1.trans s2)
        rw [e] at this
        exact this
/-- is_number -/
def digs : Str := "0123456789"
theorem tl_digs : TL.tl digs = [48, 49, 50, 51, 52, 53, 54, 55, 56, 57] := by decide +kernel
theorem mem_digs (c : Nat) : decide (c ∈ digs.cps.toList) = decide (48 ≤ c ∧ c ≤ 57) := by
  have e : digs.cps.toList = [48, 49, 50, 51, 52, 53, 54, 55, 56, 57] := tl_digs
  rw [e]
  refine decide_eq_decide.mpr ?_
  simp only [List.mem_cons, List.not_mem_nil, or_false]
  omega
def nought : Str := "0"
theorem tl_nought : TL.tl nought = [48] := by decide +kernel
def spIsNum : Sp := fun vs H Q _ => ∃ l : List Nat, vs = [.str ⟨l.toArray⟩] ∧ l.length ≤ 1000 ∧ ∀ H', Same H H' → Q (.bl (numOk l)) H'
theorem str_eq {l : List Nat} {y : Str} : (V.str ⟨l.toArray⟩ = V.str y) ↔ l = TL.tl y := by
  constructor
  · intro h
    injection h with h
    rw [← h]
  · intro h
    rw [h, TL.mk_tl]
theorem ok_isnum (T : Txt K mg) : FnOk P w K mg base CX0 1 T.f_is_number T.d_is_number ["text"] spIsNum := by
  refine T.F_is_number.ok sc_is_number (fun vs H Q E h => ?_) (fun cdv A outer s H vs Q E hr h => ?_)
  · obtain ⟨l, rfl, _⟩ := h
    rfl
  · obtain ⟨l, rfl, hl, k⟩ := h
    refine ⟨_, (pss_cons (ps_if (pt_not (pt_chain op_le op_le pe_int (pe_callB call_len_str (by rfl) T.n_len (by decide +kernel) (pa_cons (pv 0) pa_nil)) (pe_glob (v := V.int 9) rfl T.c_LONGEST_NUMBER ⟨_, rfl⟩)))
      (pss_one (ps_ret pe_bl))
      pss_nil)
    (C8.pss_cut (ps_if (PW.pt (pw_and (pt_cmpR op_eq (pe_ix ix_str (pv 0) pe_int (fun _ _ => rfl)) pe_str (nomark _)) (pw_and1 (pt_cmpR op_ne (pv 0) pe_str (nomark _)))))
      (pss_one (ps_ret pe_bl))
      pss_nil)
    (pss_one (ps_ret (pe_callB (cr_all rfl) (by rfl) T.n_all (by decide +kernel) (pa_cons (pe_lc (own := [("char", 1)]) (g := gName 1) (tt := tYes) rfl sc_is_number.nd (pi_str (pv 0)) (blkOk_by (N := ["text", "char"]) (sc := defScope s_is_number) (by decide +kernel)) (fun _ _ _ _ _ => pg_name (i := 1) sc_is_number.nd rfl (Or.inl rfl)) (fun _ _ _ _ _ => pts_nil) (fun _ _ _ _ _ => (pe_cmpR op_in_sign (pv 1) (pe_glob (v := V.str "0123456789") rfl T.c_DIGITS ⟨_, rfl⟩) rfl))) pa_nil)))))), ?_⟩
    have len : (⟨l.toArray⟩ : Str).length = l.length := by rw [TL.len_tl]
    have hz : (⟨l.toArray⟩ : Str).length ≤ sizeLine := by rw [len]; exact Nat.le_of_lt (small1000 hl)
    have no : numOk l = false → Q (.bl false) H := fun e => by
      have := k H (Same.refl H)
      rw [e] at this
      exact this
    have bad : ¬ (1 ≤ l.length ∧ l.length ≤ 9) → numOk l = false := fun q => by
      unfold numOk
      rw [decide_eq_false q, Bool.false_and]
    refine ⟨_, rfl, _, rfl, hz, 1, _, rfl, rfl, _, rfl, ite2 (fun h1 => ?_) fun h1 => ?_⟩
    · have h1' : (1 : Int) ≤ ((⟨l.toArray⟩ : Str).length : Int) := of_decide_eq_true h1
      rw [len] at h1'
      refine ⟨_, 9, rfl, rfl, _, rfl, ite2 (fun h2 => ?_) fun h2 => ?_⟩
      · rw [len] at h2
        have h2' : ¬ (l.length : Int) ≤ 9 := by simpa using h2
        exact no (bad (by omega))
      · rw [len] at h2
        have h2' : (l.length : Int) ≤ 9 := by simpa using h2
        obtain ⟨c, r, rfl⟩ : ∃ c r, l = c :: r := by
          cases l with
          | nil => exact absurd h1' (by decide)
          | cons c r => exact ⟨c, r, rfl⟩
        have e1 : numOk (c :: r) = (!(decide (c = 48) && !decide (c :: r = [48])) && (c :: r).all fun c => decide (48 ≤ c ∧ c ≤ 57)) := by
          unfold numOk
          rw [decide_eq_true (show 1 ≤ (c :: r).length ∧ (c :: r).length ≤ 9 by omega), Bool.true_and]
          congr 3
          exact decide_eq_decide.mpr ⟨fun q => Option.some.inj q, fun q => by rw [q]; rfl⟩
        -- no leading nought
        have after : ¬ (c = 48 ∧ c :: r ≠ [48]) → numOk (c :: r) = (c :: r).all fun c => decide (48 ≤ c ∧ c ≤ 57) := fun q => by
          rw [e1]
          by_cases hc : c = 48
          · have hr2 : c :: r = [48] := Classical.byContradiction fun z => q ⟨hc, z⟩
            rw [decide_eq_true hc, decide_eq_true hr2]
            rfl
          · rw [decide_eq_false hc]
            rfl
        refine ⟨fun σ H' => σ = [some (.str ⟨(c :: r).toArray⟩), none] ∧ H' = H ∧ ¬ (c = 48 ∧ c :: r ≠ [48]), ?_, ?_⟩
        · refine ⟨_, rfl, _, 0, c, rfl, rfl, hz, at0, rfl, _, rfl, ?_⟩
          have ed : decide (V.str ⟨#[c]⟩ = V.str "0") = decide (c = 48) := decide_eq_decide.mpr ⟨fun q => by
            have := (str_eq (l := [c]) (y := nought)).mp q
            rw [tl_nought] at this
            injection this, fun q => by rw [q]; exact (str_eq (l := [48]) (y := nought)).mpr tl_nought.symm⟩
          rw [ed]
          refine ite2 (fun h3 => ?_) fun h3 => ?_
          · have h3' : c = 48 := of_decide_eq_true h3
            refine ⟨_, rfl, rfl, _, rfl, ?_⟩
            have ed2 : (!decide (V.str ⟨(c :: r).toArray⟩ = V.str "0")) = !decide (c :: r = [48]) := by
              congr 1
              refine decide_eq_decide.mpr ?_
              rw [← tl_nought]
              exact str_eq (y := nought)
            rw [ed2]
            refine ite2 (fun h4 => ?_) fun h4 => ?_
            · refine no ?_
              rw [e1, decide_eq_true h3', Bool.true_and]
              rw [h4, Bool.not_true, Bool.false_and]
            · exact ⟨rfl, rfl, fun q => h4 (by rw [decide_eq_false q.2]; rfl)⟩
          · exact ⟨rfl, rfl, fun q => h3 (decide_eq_true q.1)⟩
        · rintro σ H' ⟨rfl, rfl, hq⟩
          refine ⟨_, rfl, _, rfl, fun D hD => ?_⟩
          refine lc_str (fun i H1 => H1 D = some (.lst ((((c :: r).take i).map fun c => decide (48 ≤ c ∧ c ≤ 57)).map V.bl)) ∧ Same H' H1) ⟨upd_same, same_upd hD⟩ ?_ ?_
          · intro i d H1 hi ⟨eD, sm⟩
            have hi' : (c :: r)[i]? = some d := hi
            have hi2 : i < 1000 := by
              have := (List.getElem?_eq_some_iff.mp hi').1
              omega
            refine ⟨rfl, _, rfl, d, digs, rfl, rfl, _, eD, small1000 (by rw [List.length_map, List.length_map, List.length_take]; omega), ?_, same_mut sm hD⟩
            rw [upd_same, take_more hi', List.map_append, List.map_append, mem_digs]
            rfl
          · intro H1 ⟨eD, sm⟩
            have et : (c :: r).take (c :: r).toArray.size = c :: r := List.take_of_length_le (by simp)
            have eD' : H1 D = some (.lst (((c :: r).map fun c => decide (48 ≤ c ∧ c ≤ 57)).map V.bl)) := by
              rw [← et]
              exact eD
            refine ⟨D, _, rfl, SqL.of eD', ?_⟩
            rw [List.all_map]
            have := k H1 sm
            rw [after hq] at this
            exact this
    · rw [len] at h1
      have h1' : ¬ (1 : Int) ≤ (l.length : Int) := fun q => h1 (decide_eq_true q)
      exact ⟨_, rfl, iteT (no (bad (by omega)))⟩
end

/-! ### reading; the law's helpers -/
section
variable {P : Program} {w : World} {K : PySem.W.Frag} {mg : Str → Option Value} {base : Heap}
def spRead (C : Addr) : Sp := fun vs H Q _ => ∃ z : Str, vs = [.ref C, .str z] ∧ z.length ≤ 900 ∧ goodL (TL.tl z) = true ∧ ∀ p H', H p = none → Same H H' → RatAt C H' p (lowT (topL (TL.tl z)) (botL (TL.tl z))) (lowB (topL (TL.tl z)) (botL (TL.tl z))) → Q (.ref p) H'
theorem strip_len (l : List Nat) : (stripL l).length ≤ l.length := by
  cases l with
  | nil => exact Nat.le_refl _
  | cons c r =>
    show (if c = 45 then r else c :: r).length ≤ (c :: r).length
    by_cases h : c = 45
    · rw [if_pos h]; exact Nat.le_succ _
    · rw [if_neg h]; exact Nat.le_refl _
/-- what partition gives of the rest behind the sign -/
theorem part_eq (l : List Nat) : ∃ st bk : Str, Txt.partition ⟨(stripL l).toArray⟩ stroke = (⟨(frontL l).toArray⟩, st, bk) ∧ ((st = stroke ∧ bk = ⟨(backL l).toArray⟩) ∨ (st = Str.empty ∧ backL l = [49])) := by
  rcases cut_eq (stripL l) with ⟨b, e1, e2⟩ | ⟨e1, e2, e3⟩
  · refine ⟨_, _, e2, .inl ⟨rfl, ?_⟩⟩
    unfold backL
    rw [e1]
  · refine ⟨Str.empty, Str.empty, e3.trans ?_, .inr ⟨rfl, ?_⟩⟩
    · unfold frontL
      rw [e2]
    · unfold backL
      rw [e1]
theorem ok_read (T : Txt K mg) : FnOk P w K mg base CX0 3 T.f_Ratio_read T.d_Ratio_read ["cls", "text"] (spRead T.f_Ratio) := by
  have G_Ratio_init : FnOk P w K mg base CX0 1 T.f_Ratio_init T.d_Ratio_init ["self", "top", "bottom"] (spInit T.f_Ratio) := ok_init T
  have G_is_number : FnOk P w K mg base CX0 1 T.f_is_number T.d_is_number ["text"] spIsNum := ok_isnum T
  refine T.F_Ratio_read.ok sc_Ratio_read (fun vs H Q E h => ?_) (fun cdv A outer s H vs Q E hr h => ?_)
  · obtain ⟨z, rfl, _⟩ := h
    rfl
  · obtain ⟨z, rfl, hz, hg, k⟩ := h
    refine ⟨_, (pss_cons (ps_asg (pe_partition (pe_bm PySem.F.plainAttrs_str PySem.F.slot_str_removeprefix PySem.F.type_str_removeprefix mt_removeprefix (pv 1) (pa_cons pe_str pa_nil)) pe_str) (pg_tup rfl (pgs_cons (pg_name (i := 2) sc_Ratio_read.nd rfl (Or.inl rfl)) (pgs_cons (pg_name (i := 3) sc_Ratio_read.nd rfl (Or.inl rfl)) (pgs_cons (pg_name (i := 4) sc_Ratio_read.nd rfl (Or.inl rfl)) pgs_nil)))))
    (C8.pss_cut (ps_if (pt_cmpR op_eq (pv 3) pe_str (nomark _))
      (pss_one (ps_set (i := 4) sc_Ratio_read.nd rfl (Or.inl rfl) pe_str))
      pss_nil)
    (pss_cons (ps_if (PW.pt (pw_or (pt_not (pt_val (pe_call G_is_number (hr.mono (by decide)) rfl T.m_is_number T.F_is_number.kp T.b_is_number .nil pass0 (pa_cons (pv 2) pa_nil)))) (pw_or (pt_not (pt_val (pe_call G_is_number (hr.mono (by decide)) rfl T.m_is_number T.F_is_number.kp T.b_is_number .nil pass0 (pa_cons (pv 4) pa_nil)))) (pw_or1 (pt_cmpR op_eq (pv 4) pe_str (nomark _))))))
      (pss_one ps_never)
      pss_nil)
    (pss_cons (ps_if (pt_val (pe_bm PySem.F.plainAttrs_str PySem.F.slot_str_startswith PySem.F.type_str_startswith mt_startswith (pv 1) (pa_cons pe_str pa_nil)))
      (pss_one (ps_ret (pe_makeL (i := 0) T.mk_Ratio G_Ratio_init (hr.mono (by decide)) rfl (Or.inl rfl) T.b2_Ratio_init T.v2_Ratio_init pass0 (pa_cons (pe_un un_neg (pe_callTy call_int_str (by rfl) T.n_int (by decide +kernel) (pa_cons (pv 2) pa_nil))) (pa_cons (pe_callTy call_int_str (by rfl) T.n_int (by decide +kernel) (pa_cons (pv 4) pa_nil)) pa_nil)))))
      pss_nil)
    (pss_one (ps_ret (pe_makeL (i := 0) T.mk_Ratio G_Ratio_init (hr.mono (by decide)) rfl (Or.inl rfl) T.b2_Ratio_init T.v2_Ratio_init pass0 (pa_cons (pe_callTy call_int_str (by rfl) T.n_int (by decide +kernel) (pa_cons (pv 2) pa_nil)) (pa_cons (pe_callTy call_int_str (by rfl) T.n_int (by decide +kernel) (pa_cons (pv 4) pa_nil)) pa_nil))))))))), ?_⟩
    have hzl : z.length ≤ sizeLine := Nat.le_of_lt (small1000 (by omega))
    obtain ⟨g1, g⟩ := Bool.and_eq_true_iff.mp hg
    obtain ⟨g2, g3⟩ := Bool.and_eq_true_iff.mp g
    have g3' : backL (TL.tl z) ≠ [48] := by simpa using g3
    have n1 := numOk_len g1
    have n2 := numOk_len g2
    -- front, stroke, back
    obtain ⟨st, bk, ep, eb⟩ := part_eq (TL.tl z)
    refine ⟨_, rfl, rfl, z, dash, rfl, rfl, hzl, ⟨_, rfl⟩, Txt.removeprefix z dash, stroke, rfl, rfl, by decide +kernel, ?_, fun p hp => ?_⟩
    · rw [strip_eq, TL.len_tl]
      show (stripL (TL.tl z)).length ≤ _
      have := strip_len (TL.tl z)
      rw [← TL.len_tl] at this
      exact Nat.le_trans this hzl
    rw [strip_eq, ep]
    refine ⟨p, _, rfl, SqT.of upd_same, rfl, _, _, rfl, _, _, rfl, _, _, rfl, rfl, ?_⟩
    refine ⟨fun σ H' => ∃ x3, σ = [some (.ref T.f_Ratio), some (.str z), some (.str ⟨(frontL (TL.tl z)).toArray⟩), x3, some (.str ⟨(backL (TL.tl z)).toArray⟩)] ∧ Same H H', ?_, ?_⟩
    · refine ⟨_, rfl, rfl, _, rfl, ?_⟩
      rcases eb with ⟨e1, e2⟩ | ⟨e1, e2⟩
      · rw [e1, e2, show decide (V.str stroke = V.str "") = false by decide +kernel]
        exact iteF ⟨_, rfl, same_upd hp⟩
      · rw [e1, e2, show decide (V.str Str.empty = V.str "") = true by decide +kernel]
        refine iteT ⟨some (.str Str.empty), ?_, same_upd hp⟩
        show [some (V.ref T.f_Ratio), some (.str z), some (.str ⟨(frontL (TL.tl z)).toArray⟩), some (.str Str.empty), some (.str "1")] = _
        rw [show ((⟨[49].toArray⟩ : Str)) = "1" by decide +kernel]
    rintro σ H1 ⟨x3, rfl, s1⟩
    -- both are numbers
    refine ⟨_, rfl, _, rfl, by omega, fun H2 s2 => ⟨_, rfl, ?_⟩⟩
    rw [g1]
    refine iteF ?_
    refine ⟨_, rfl, _, rfl, by omega, fun H3 s3 => ⟨_, rfl, ?_⟩⟩
    rw [g2]
    refine iteF ?_
    refine ⟨_, rfl, rfl, _, rfl, ?_⟩
    have e0 : decide (V.str ⟨(backL (TL.tl z)).toArray⟩ = V.str "0") = false := decide_eq_false fun q => g3' (by
      have := (str_eq (l := backL (TL.tl z)) (y := nought)).mp q
      rw [tl_nought] at this
      exact this)
    rw [e0]
    refine iteF ?_
    have sm : Same H H3 := (s1.trans s2).trans s3
    have l1 : (⟨(frontL (TL.tl z)).toArray⟩ : Str).length ≤ 640 := by rw [TL.len_tl]; show (frontL (TL.tl z)).length ≤ 640; omega
    have l2 : (⟨(backL (TL.tl z)).toArray⟩ : Str).length ≤ 640 := by rw [TL.len_tl]; show (backL (TL.tl z)).length ≤ 640; omega
    refine ⟨_, rfl, rfl, z, dash, rfl, rfl, _, rfl, ?_⟩
    rw [starts_eq]
    have fin : ∀ top : Int, top = topL (TL.tl z) → ∀ x dx, H3 x = none → H3 dx = none → dx ≠ x → spInit T.f_Ratio [.ref x, .int top, .int (botL (TL.tl z))] (upd (upd H3 dx (.own x)) x (.ins T.f_Ratio dx [])) (fun v H2 => v = .non ∧ Q (.ref x) H2) E0 := by
      intro top et
      rw [et]
      exact made_rat (bot_ne hg) (bot_big hg) fun x H' nx sx r => k x H' (sm.free nx) (sm.trans sx) r
    refine ite2 (fun h => ?_) fun h => ?_
    · refine ⟨rfl, _, rfl, _, _, rfl, reads g1, l1, _, rfl, _, rfl, _, _, rfl, reads g2, l2, fin _ ?_⟩
      unfold topL
      rw [if_pos h]
    · refine ⟨rfl, _, rfl, _, _, rfl, reads g1, l1, _, rfl, _, _, rfl, reads g2, l2, fin _ ?_⟩
      unfold topL
      rw [if_neg h]
/-- _law_low -/
def spLow : Sp := fun vs H Q _ => ∃ t b : Int, vs = [.int t, .int b] ∧ b ≠ 0 ∧ BIG b ∧ ∀ p H', H p = none → Same H H' → H' p = some (.tup [.int (lowT t b), .int (lowB t b)]) → Q (.ref p) H'
theorem ok_low (T : Txt K mg) : FnOk P w K mg base CX0 1 T.f_low T.d_low ["_law_up", "_law_down"] spLow := by
  refine T.F_low.ok sc_low (fun vs H Q E h => ?_) (fun cdv A outer s H vs Q E hr h => ?_)
  · obtain ⟨t, b, rfl, _⟩ := h
    rfl
  · obtain ⟨t, b, rfl, hb, hB, k⟩ := h
    refine ⟨_, (pss_cons (ps_set (i := 2) sc_low.nd rfl (Or.inl rfl) (pe_callB call_abs (by rfl) T.n_abs (by decide +kernel) (pa_cons (pv 0) pa_nil)))
    (pss_cons (ps_set (i := 3) sc_low.nd rfl (Or.inl rfl) (pe_callB call_abs (by rfl) T.n_abs (by decide +kernel) (pa_cons (pv 1) pa_nil)))
    (C8.pss_cut (ps_while PassesOwn.never (pt_cmpR op_ne (pv 3) pe_int (nomark _))
      (pss_one (ps_par (i := 2) (j := 3) (by rfl) sc_low.nd rfl rfl (by decide) rfl rfl (pa_cons (pv 3) (pa_cons (pe_op op_mod (pe_callTy call_int1 (by rfl) T.n_int (by decide +kernel) (pa_cons (pv 2) pa_nil)) (pv 3)) pa_nil)) (by rfl))))
    (C8.pss_cut (ps_if (pt_cmpR op_lt (pv 1) pe_int (nomark _))
      (pss_one (ps_set (i := 2) sc_low.nd rfl (Or.inl rfl) (pe_un un_neg (pv 2))))
      pss_nil)
    (pss_one (ps_ret (pe_tup (pa_cons (pe_op op_fdivZ (pv 0) (pv 2)) (pa_cons (pe_op op_fdivZ (pv 1) (pv 2)) pa_nil))))))))), ?_⟩
    refine ⟨_, rfl, t, rfl, ?_⟩
    rw [abs_of]
    refine ⟨_, rfl, b, rfl, ?_⟩
    rw [abs_of]
    refine ⟨fun σ H' => σ = [some (.int t), some (.int b), some (.int ((Nat.gcd t.natAbs b.natAbs : Nat) : Int)), some (.int 0)] ∧ H' = H, ?_, ?_⟩
    · refine ⟨fun m σ H' => ∃ x y : Nat, σ = [some (.int t), some (.int b), some (.int (x : Int)), some (.int (y : Int))] ∧ H' = H ∧ Nat.gcd x y = Nat.gcd t.natAbs b.natAbs ∧ y = m, ⟨_, _, _, rfl, rfl, rfl, rfl⟩, ?_⟩
      rintro m σ H' ⟨x, y, rfl, rfl, hg, rfl⟩
      refine ⟨_, rfl, rfl, _, rfl, ?_⟩
      by_cases hy : y = 0
      · subst hy
        refine iteF ⟨?_, rfl⟩
        rw [Nat.gcd_zero_right] at hg
        rw [hg]
        rfl
      · have ey : (!decide (V.int (y : Int) = V.int 0)) = true := by
          rw [Bool.not_eq_true', decide_eq_false_iff_not]
          intro q
          injection q with q
          omega
        rw [ey]
        refine iteT ⟨fun σ' H2 => ∃ x' y' : Nat, σ' = [some (.int t), some (.int b), some (.int (x' : Int)), some (.int (y' : Int))] ∧ H2 = H' ∧ Nat.gcd x' y' = Nat.gcd t.natAbs b.natAbs ∧ y' < y, fun σ' H2 ⟨x', y', e1, e2, e3, e4⟩ => ⟨y', e4, x', y', e1, e2, e3, rfl⟩, ?_⟩
        refine ⟨_, rfl, _, rfl, .inl ⟨_, rfl, _, rfl, (x : Int), (y : Int), rfl, rfl, (by show (0 : Int) < (y : Int); omega), _, _, rfl, y, x % y, ?_, rfl, ?_, Nat.mod_lt _ (by omega)⟩⟩
        · rfl
        · rw [← hg, Nat.gcd_comm x y, Nat.gcd_rec y x, Nat.gcd_comm]
    rintro σ H' ⟨rfl, rfl⟩
    refine ⟨fun σ H2 => σ = [some (.int t), some (.int b), some (.int (dvs t b)), some (.int 0)] ∧ H2 = H', ?_, ?_⟩
    · refine ⟨_, rfl, b, 0, rfl, rfl, _, rfl, ite2 (fun h0 => ?_) fun h0 => ?_⟩
      · refine ⟨_, rfl, _, rfl, ?_, rfl⟩
        unfold dvs
        rw [if_pos (of_decide_eq_true h0)]
        rfl
      · refine ⟨?_, rfl⟩
        unfold dvs
        rw [if_neg fun q => h0 (decide_eq_true q)]
    rintro σ H2 ⟨rfl, rfl⟩
    have hz : ∀ i : Int, CDivZ i (dvs t b) := fun i => cdivZ (dvs_ne hb) (Nat.lt_of_le_of_lt (dvs_le hb) hB)
    exact ⟨_, rfl, _, rfl, t, _, rfl, rfl, hz _, _, rfl, _, rfl, b, _, rfl, rfl, hz _, (by show 2 ≤ sizeLine; decide), fun p hp => k p _ hp (same_upd hp) upd_same⟩
end

/-! ### the law's helpers on ratios -/
section
variable {P : Program} {w : World} {K : PySem.W.Frag} {mg : Str → Option Value} {base : Heap}
def dat2 (t b : Int) : PyData := .tuple [.int t, .int b]
theorem dp2 {H : Hp} {q : Addr} {t b : Int} (h : H q = some (.tup [.int t, .int b])) : Dp K H (.ref q) (dat2 t b) := .tup (SqT.of h) (.cons (.int _) (.cons (.int _) .nil))
theorem sh2 (t b : Int) : SeqAt.shaped (dat2 t b) = true := by simp [dat2, SeqAt.shaped, PyData.canLay0, PyData.canLayAll0, PyData.depth, PyData.depthAll]
theorem eq2 (t b : Int) : PyData.eqv (dat2 t b) (dat2 t b) = true := by simp [dat2, PyData.eqv, PyData.eqvAll]
/-- _law_is, where it holds -/
def spIs (C : Addr) : Sp := fun vs H Q _ => ∃ (p q : Addr) (t b : Int), vs = [.ref p, .ref q] ∧ RatAt C H p t b ∧ H q = some (.tup [.int t, .int b]) ∧ ∀ H', Same H H' → Q (.bl true) H'
theorem ok_is (T : Txt K mg) : FnOk P w K mg base CX0 3 T.f_is T.d_is ["_law_actual", "_law_pair"] (spIs T.f_Ratio) := by
  have G_Ratio_top : FnOk P w K mg base CX0 1 T.f_Ratio_top T.d_Ratio_top ["self"] (spTop T.f_Ratio) := ok_top T
  have G_Ratio_bottom : FnOk P w K mg base CX0 1 T.f_Ratio_bottom T.d_Ratio_bottom ["self"] (spBottom T.f_Ratio) := ok_bottom T
  refine T.F_is.ok sc_is (fun vs H Q E h => ?_) (fun cdv A outer s H vs Q E hr h => ?_)
  · obtain ⟨p, q, t, b, rfl, _⟩ := h
    rfl
  · obtain ⟨p, q, t, b, rfl, r, hq, k⟩ := h
    obtain ⟨dx, hp⟩ := id r
    refine ⟨_, (pss_cons (ps_if (PW.pt (pw_or (pt_not (pt_val (pe_callB call_isi (by rfl) T.n_isinstance (by decide +kernel) (pa_cons (pv 0) (pa_cons (pe_glob (v := .ref T.f_Ratio) rfl T.m_Ratio rfl) pa_nil))))) (pw_or (pt_not (pt_val (pe_callB call_isi (by rfl) T.n_isinstance (by decide +kernel) (pa_cons (pe_prop (pv 0) T.cl_Ratio T.p_Ratio_top G_Ratio_top (hr.mono (by decide)) T.b_Ratio_top .nil pass0 rfl) (pa_cons (pe_bltn (v := .ty "int") (u := .type "int") (by rfl) T.n_int (by decide +kernel) rfl) pa_nil))))) (pw_or1 (pt_not (pt_val (pe_callB call_isi (by rfl) T.n_isinstance (by decide +kernel) (pa_cons (pe_prop (pv 0) T.cl_Ratio T.p_Ratio_bottom G_Ratio_bottom (hr.mono (by decide)) T.b_Ratio_bottom .nil pass0 rfl) (pa_cons (pe_bltn (v := .ty "int") (u := .type "int") (by rfl) T.n_int (by decide +kernel) rfl) pa_nil)))))))))
      (pss_one (ps_ret pe_bl))
      pss_nil)
    (pss_one (ps_ret (pe_cmpR (op_eqD hr.units) (pe_tup (pa_cons (pe_prop (pv 0) T.cl_Ratio T.p_Ratio_top G_Ratio_top (hr.mono (by decide)) T.b_Ratio_top .nil pass0 rfl) (pa_cons (pe_prop (pv 0) T.cl_Ratio T.p_Ratio_bottom G_Ratio_bottom (hr.mono (by decide)) T.b_Ratio_bottom .nil pass0 rfl) pa_nil))) (pv 1) (nomark _))))), ?_⟩
    refine ⟨_, rfl, .ref p, .ref T.f_Ratio, .ref T.f_Ratio, .ref T.f_Ratio, true, rfl, .own _, tyR T.ic_Ratio r, kit_self, true, rfl, iteF ?_⟩
    refine ⟨_, rfl, p, dx, _, rfl, hp, p, t, b, rfl, r, .int t, .ty "int", .type "int", .type "int", true, rfl, .ty _, .base (.int _), kit_ty (by decide +kernel), true, rfl, iteF ?_⟩
    refine ⟨_, rfl, p, dx, _, rfl, hp, p, t, b, rfl, r, .int b, .ty "int", .type "int", .type "int", true, rfl, .ty _, .base (.int _), kit_ty (by decide +kernel), true, rfl, iteF ?_⟩
    refine ⟨_, rfl, p, dx, _, rfl, hp, p, t, b, rfl, r, _, rfl, p, dx, _, rfl, hp, p, t, b, rfl, r, (by show 2 ≤ sizeLine; decide), fun o ho => ?_⟩
    refine ⟨_, rfl, dat2 t b, dat2 t b, dp2 upd_same, dp2 (same_upd ho _ _ hq), sh2 t b, sh2 t b, ?_⟩
    rw [eq2]
    exact k _ (same_upd ho)
/-- _law_integer -/
def spInteger : Sp := fun vs H Q _ => ∃ (G : Hp) (s : Addr) (m : Nat), vs = [.ref s] ∧ DSt G H s m ∧ m + 2 < 1000000 ∧ ∀ (r : Int) (H' : Hp), r.natAbs ≤ 10 ^ 30 → DSt G H' s (m + 2) → Q (.int r) H'
theorem three {r : Int} (h0 : 0 ≤ r) (h1 : r < 3) : ∃ v : Int, atI [V.int 20, .int 1000, .int (10 ^ 30)] r = some (.int v) ∧ 0 < v ∧ v ≤ 10 ^ 30 := by
  have h : r = 0 ∨ r = 1 ∨ r = 2 := by omega
  rcases h with rfl | rfl | rfl
  · exact ⟨20, rfl, by decide, by decide +kernel⟩
  · exact ⟨1000, rfl, by decide, by decide +kernel⟩
  · exact ⟨10 ^ 30, rfl, by decide +kernel, Int.le_refl _⟩
theorem ok_integer (T : Txt K mg) : FnOk P w K mg base CX0 2 T.f_integer T.d_integer ["_law_state"] spInteger := by
  have G_draw : FnOk P w K mg base CX0 1 T.f_draw T.d_draw ["_law_state", "_law_size"] spDraw := ok_draw T
  refine T.F_integer.ok sc_integer (fun vs H Q E h => ?_) (fun cdv A outer s H vs Q E hr h => ?_)
  · obtain ⟨G, a, m, rfl, _⟩ := h
    rfl
  · obtain ⟨G, a, m, rfl, d, hm, k⟩ := h
    refine ⟨_, (pss_cons (ps_set (i := 1) sc_integer.nd rfl (Or.inl rfl) (pe_ix ix_list (pe_lst (pa_cons pe_int (pa_cons pe_int (pa_cons (pe_op op_pow pe_int pe_int) pa_nil)))) (pe_call G_draw (hr.mono (by decide)) rfl T.m_draw T.F_draw.kp T.b_draw .nil pass0 (pa_cons (pv 0) (pa_cons pe_int pa_nil))) (fun _ _ => rfl)))
    (pss_one (ps_ret (pe_op op_sub (pe_call G_draw (hr.mono (by decide)) rfl T.m_draw T.F_draw.kp T.b_draw .nil pass0 (pa_cons (pv 0) (pa_cons (pe_op op_add (pe_op op_mul pe_int (pv 1)) pe_int) pa_nil))) (pv 1))))), ?_⟩
    refine ⟨10, 30, rfl, rfl, ⟨by decide, by decide, by decide⟩, (by show 3 ≤ sizeLine; decide), fun l hl => ?_⟩
    refine ⟨_, rfl, upd G l _, a, m, 3, rfl, d.new hl, by omega, by decide, by decide, fun r H1 r0 r1 d1 => ?_⟩
    obtain ⟨v, ev, v0, v1⟩ := three r0 r1
    refine ⟨l, _, r, .int v, rfl, rfl, SqL.of (d1.same _ _ upd_same), ev, ?_⟩
    have d2 := d1.less (same_upd (d.free hl))
    have hv : 2 * v + 1 < 2 ^ 200 := Int.lt_of_le_of_lt (show 2 * v + 1 ≤ 2 * 10 ^ 30 + 1 by omega) (by decide +kernel)
    refine ⟨_, rfl, _, rfl, 2, v, rfl, rfl, .inl ⟨by decide, by decide⟩, _, _, rfl, rfl, ?_⟩
    refine ⟨G, a, m + 1, _, rfl, d2, by omega, by omega, hv, fun z H2 z0 z1 d3 => ?_⟩
    refine ⟨_, rfl, _, _, rfl, rfl, k _ _ ?_ d3⟩
    omega
/-- OutOfRange's own __init__ -/
def spOor (C : Addr) : Sp := fun vs H Q _ => ∃ (a : Addr) (v : V), vs = [.ref a, v] ∧ H a = some (exo a C none) ∧ ∀ dx H', H dx = none → dx ≠ a → H' = upd (upd H dx (exd dx [("value", v)])) a (exo a C (some dx)) → Q .non H'
theorem ok_oor (T : Txt K mg) : FnOk P w K mg base CX0 1 T.f_OutOfRange_init T.d_OutOfRange_init ["self", "value"] (spOor T.f_OutOfRange) := by
  refine T.F_OutOfRange_init.ok sc_OutOfRange_init (fun vs H Q E h => ?_) (fun cdv A outer s H vs Q E hr h => ?_)
  · obtain ⟨a, v, rfl, _⟩ := h
    rfl
  · obtain ⟨a, v, rfl, ha, k⟩ := h
    refine ⟨_, (pss_one (ps_ost (pv 0) (pv 1))), ?_⟩
    exact ⟨_, rfl, _, rfl, a, T.f_OutOfRange, rfl, T.ox_OutOfRange, T.no_OutOfRange_value, .inl ⟨ha, fun dx nd ne => k dx _ nd ne rfl⟩⟩
/-- Ratio(t, 0) raises -/
def spInitX (C D : Addr) : Sp := fun vs H _ E => ∃ (p dx : Addr) (t : Int), vs = [.ref p, .int t, .int 0] ∧ H p = some (.ins C dx []) ∧ ∀ d H', H d = none → (∀ a o, H a = some o → H' a = some o) → H' d = some (.xd [("value", .int 0)]) → E (.ref D) (some d) H'
theorem ok_initX (T : Txt K mg) : FnOk P w K mg base (L2.CX P w) 3 T.f_Ratio_init T.d_Ratio_init ["self", "top", "bottom"] (spInitX T.f_Ratio T.f_OutOfRange) := by
  have G_OutOfRange_init : FnOk P w K mg base CX0 1 T.f_OutOfRange_init T.d_OutOfRange_init ["self", "value"] (spOor T.f_OutOfRange) := ok_oor T
  refine T.F_Ratio_init.ok sc_Ratio_init (fun vs H Q E h => ?_) (fun cdv A outer s H vs Q E hr h => ?_)
  · obtain ⟨p, dx, t, rfl, _⟩ := h
    rfl
  · obtain ⟨p, dx, t, rfl, hp, k⟩ := h
    refine ⟨_, (pss_cons (ps_if (pt_cmpR op_eq (pv 2) pe_int (nomark _))
      (pss_one (ps_raise rfl (takes_of rfl rfl rfl rfl) (pmk_oex T.ox_OutOfRange T.ix_OutOfRange T.tx_OutOfRange G_OutOfRange_init (hr.mono (by decide)) T.b_OutOfRange_init .nil pass0 rfl T.m_OutOfRange (pa_cons (pv 2) pa_nil))))
      pss_nil)
    (pss_cons (ps_set (i := 3) sc_Ratio_init.nd rfl (Or.inl rfl) (pe_callBfun cr_gcd rfl T.g_gcd (pa_cons (pv 1) (pa_cons (pv 2) pa_nil))))
    (C8.pss_cut (ps_if (pt_cmpR op_lt (pv 2) pe_int (nomark _))
      (pss_one (ps_set (i := 3) sc_Ratio_init.nd rfl (Or.inl rfl) (pe_un un_neg (pv 3))))
      pss_nil)
    (pss_cons (ps_fld (pv 0) (pe_op op_fdivZ (pv 1) (pv 3)) rfl)
    (pss_one (ps_fld (pv 0) (pe_op op_fdivZ (pv 2) (pv 3)) rfl)))))), ?_⟩
    refine ⟨_, rfl, rfl, _, rfl, iteT ?_⟩
    refine ⟨_, rfl, by decide, fun a na => ?_⟩
    refine ⟨a, .int 0, rfl, upd_same, fun d H' nd ne e => ⟨rfl, d, [("value", .int 0)], ?_, ?_, ?_, ?_⟩⟩
    · rw [e]; exact upd_same
    · rw [e, upd_ne ne]; exact upd_same
    · rw [upd_ne ne] at nd; exact nd
    · rw [upd_ne ne] at nd
      refine k d _ nd (fun b o hb => ?_) upd_same
      have n1 : b ≠ d := ne_of_none hb nd
      have n2 : b ≠ a := ne_of_none hb na
      rw [upd_ne n1, del_ne n2, e, upd_ne n2, upd_ne n1, upd_ne n2]
      exact hb
/-- _law_refused -/
def spRefused : Sp := fun vs H Q _ => ∃ u : Int, vs = [.int u] ∧ ∀ H', Q (.bl true) H'
theorem ok_refused (T : Txt K mg) : FnOk P w K mg base CX0 6 T.f_refused T.d_refused ["_law_upper"] spRefused := by
  have GX_Ratio_init : FnOk P w K mg base (L2.CX P w) 3 T.f_Ratio_init T.d_Ratio_init ["self", "top", "bottom"] (spInitX T.f_Ratio T.f_OutOfRange) := ok_initX T
  refine T.F_refused.ok sc_refused (fun vs H Q E h => ?_) (fun cdv A outer s H vs Q E hr h => ?_)
  · obtain ⟨u, rfl, _⟩ := h
    rfl
  · obtain ⟨u, rfl, k⟩ := h
    refine ⟨_, (C8.pss_cut (ps_try_as (i := 1) rfl rfl sc_refused.nd rfl rfl ⟨rfl, by decide, .inl T.m_OutOfRange⟩ takes0 (fun W pn xe tk _ =>
      (pss_one (ps_expr (pe_makeS T.mk_Ratio GX_Ratio_init (hr.mono (by decide)) rfl T.m_Ratio T.b2_Ratio_init T.v2_Ratio_init (fun σ => passAt tk σ) (pa_cons (pv 0) (pa_cons pe_int pa_nil)))))) (fun a oe cls d pn hz hf =>
      (pss_one (ps_ret (pe_and (pe_callB (call_isEd T.ec_OutOfRange hz hf) (by rfl) T.n_isinstance (by decide +kernel) (pa_cons (pv 1) (pa_cons (pe_glob (v := .ref T.f_ExtralinkError) rfl T.m_ExtralinkError rfl) pa_nil))) (pe_one (pe_cmpR op_eq (pe_xf T.xf_OutOfRange T.no_OutOfRange_value hz hf (pv 1)) pe_int (nomark _))))))))
    (pss_one (ps_ret pe_bl))), ?_⟩
    refine ⟨fun _ _ => False, ?_, fun _ _ z => z.elim⟩
    refine ⟨_, rfl, fun x dx nx ndx ne => ?_⟩
    refine ⟨x, dx, u, rfl, upd_same, fun d H' nd st hd => ?_⟩
    refine ⟨true, PySem.W.exm_ref T.ec_OutOfRange.hs T.ec_OutOfRange.hd T.ox_OutOfRange.tyC T.es_OutOfRange_OutOfRange, fun _ a na => ?_, fun q => nomatch q⟩
    refine ⟨_, rfl, .ref T.f_ExtralinkError, .ref T.f_ExtralinkError, true, d, _, rfl, rfl, rfl, .own _, kit_sub T.xi_OutOfRange_ExtralinkError T.xt_OutOfRange_ExtralinkError T.es_OutOfRange_ExtralinkError T.neq_OutOfRange_ExtralinkError, hd, true, rfl, iteT ?_⟩
    exact ⟨_, rfl, rfl, rfl, d, _, _, rfl, hd, rfl, rfl, k _⟩
/-- _law_text -/
def spText : Sp := fun vs H Q _ => ∃ (q : Addr) (t b : Int), vs = [.ref q] ∧ H q = some (.tup [.int t, .int b]) ∧ t.natAbs < 10 ^ 64 ∧ b.natAbs < 10 ^ 64 ∧ Q (.str (ratText t b)) H
theorem ok_text (T : Txt K mg) : FnOk P w K mg base CX0 1 T.f_text T.d_text ["_law_pair"] spText := by
  refine T.F_text.ok sc_text (fun vs H Q E h => ?_) (fun cdv A outer s H vs Q E hr h => ?_)
  · obtain ⟨q, t, b, rfl, _⟩ := h
    rfl
  · obtain ⟨q, t, b, rfl, hq, ht, hb, k⟩ := h
    refine ⟨_, (pss_cons (ps_if (pt_cmpR op_eq (pe_ix ix_tup (pv 0) pe_int (fun _ _ => rfl)) pe_int (nomark _))
      (pss_one (ps_ret (pe_callTy call_str_int (by rfl) T.n_str (by decide +kernel) (pa_cons (pe_ix ix_tup (pv 0) pe_int (fun _ _ => rfl)) pa_nil))))
      pss_nil)
    (pss_one (ps_ret (pe_op op_add_str (pe_op op_add_str (pe_callTy call_str_int (by rfl) T.n_str (by decide +kernel) (pa_cons (pe_ix ix_tup (pv 0) pe_int (fun _ _ => rfl)) pa_nil)) pe_str) (pe_callTy call_str_int (by rfl) T.n_str (by decide +kernel) (pa_cons (pe_ix ix_tup (pv 0) pe_int (fun _ _ => rfl)) pa_nil)))))), ?_⟩
    have l1 := dec_len (by decide) ht
    have l2 := dec_len (by decide) hb
    refine ⟨_, rfl, q, _, 1, .int b, rfl, rfl, SqT.of hq, rfl, rfl, _, rfl, ite2 (fun h1 => ?_) fun h1 => ?_⟩
    · have h1' : b = 1 := by
        have := of_decide_eq_true h1
        injection this
      have e : ratText t b = dec t := if_pos h1'
      rw [e] at k
      exact ⟨_, rfl, q, _, 0, .int t, rfl, rfl, SqT.of hq, rfl, t, rfl, log_small ht, k⟩
    · have h1' : b ≠ 1 := fun z => h1 (decide_eq_true (by rw [z]))
      have e1 : stroke.length = 1 := by decide +kernel
      refine ⟨_, rfl, q, _, 0, .int t, rfl, rfl, SqT.of hq, rfl, t, rfl, log_small ht, _, stroke, rfl, rfl, ?_, ?_⟩
      · show (dec t).length + stroke.length ≤ sizeLine
        exact Nat.le_trans (show _ ≤ 100 by omega) (by decide)
      refine ⟨_, rfl, q, _, 1, .int b, rfl, rfl, SqT.of hq, rfl, b, rfl, log_small hb, _, _, rfl, rfl, ?_, ?_⟩
      · show (dec t ++ stroke).length + (dec b).length ≤ sizeLine
        rw [Str.length_append]
        exact Nat.le_trans (show _ ≤ 200 by omega) (by decide)
      · have e : ratText t b = dec t ++ stroke ++ dec b := if_neg h1'
        rw [e] at k
        exact k
/-- _law_parts, where it holds -/
def spParts (C : Addr) : Sp := fun vs H Q _ => ∃ (p q : Addr) (t b : Int), vs = [.ref p, .ref q] ∧ RatAt C H p t b ∧ H q = some (.tup [.int t, .int b]) ∧ t.natAbs < 10 ^ 64 ∧ b.natAbs < 10 ^ 64 ∧ ∀ H', Same H H' → Q (.bl true) H'
theorem ok_parts (T : Txt K mg) : FnOk P w K mg base CX0 5 T.f_parts T.d_parts ["_law_ratio", "_law_pair"] (spParts T.f_Ratio) := by
  have G_is : FnOk P w K mg base CX0 3 T.f_is T.d_is ["_law_actual", "_law_pair"] (spIs T.f_Ratio) := ok_is T
  have G_as_ratio : FnOk P w K mg base CX0 3 T.f_as_ratio T.d_as_ratio ["value"] (spAs T.f_Ratio) := ok_as T
  have G_text : FnOk P w K mg base CX0 1 T.f_text T.d_text ["_law_pair"] spText := ok_text T
  have G_Ratio_sign : FnOk P w K mg base CX0 1 T.f_Ratio_sign T.d_Ratio_sign ["self"] (spSign T.f_Ratio) := ok_sign T
  have G_Ratio_str : FnOk P w K mg base CX0 2 T.f_Ratio_str T.d_Ratio_str ["self"] (spStr T.f_Ratio) := ok_str T
  refine T.F_parts.ok sc_parts (fun vs H Q E h => ?_) (fun cdv A outer s H vs Q E hr h => ?_)
  · obtain ⟨p, q, t, b, rfl, _⟩ := h
    rfl
  · obtain ⟨p, q, t, b, rfl, r, hq, ht, hb, k⟩ := h
    obtain ⟨dx, hp⟩ := id r
    refine ⟨_, (pss_cons (ps_set (i := 2) sc_parts.nd rfl (Or.inl rfl) pe_int)
    (C8.pss_cut (ps_if (pt_cmpR op_ne (pe_ix ix_tup (pv 1) pe_int (fun _ _ => rfl)) pe_int (nomark _))
      (pss_one (ps_set (i := 2) sc_parts.nd rfl (Or.inl rfl) (pe_op op_sub pe_int (pe_op op_mul pe_int (pe_callTy call_int1 (by rfl) T.n_int (by decide +kernel) (pa_cons (pe_cmpR op_lt (pe_ix ix_tup (pv 1) pe_int (fun _ _ => rfl)) pe_int (nomark _)) pa_nil))))))
      pss_nil)
    (pss_cons (ps_if (PW.pt (pw_or (pt_not (pt_val (pe_call G_is (hr.mono (by decide)) rfl T.m_is T.F_is.kp T.b_is .nil pass0 (pa_cons (pv 0) (pa_cons (pv 1) pa_nil))))) (pw_or (pt_not (pt_val (pe_callB call_isi (by rfl) T.n_isinstance (by decide +kernel) (pa_cons (pe_prop (pv 0) T.cl_Ratio T.p_Ratio_sign G_Ratio_sign (hr.mono (by decide)) T.b_Ratio_sign .nil pass0 rfl) (pa_cons (pe_bltn (v := .ty "int") (u := .type "int") (by rfl) T.n_int (by decide +kernel) rfl) pa_nil))))) (pw_or1 (pt_cmpR op_ne (pe_prop (pv 0) T.cl_Ratio T.p_Ratio_sign G_Ratio_sign (hr.mono (by decide)) T.b_Ratio_sign .nil pass0 rfl) (pv 2) (nomark _))))))
      (pss_one (ps_ret pe_bl))
      pss_nil)
    (pss_one (ps_ret (pe_and (pe_cmpR op_eq (pe_callTy (call_strO T.a_Ratio_str T.i_Ratio_str G_Ratio_str (hr.mono (by decide)) T.b_Ratio_str pass0) (by rfl) T.n_str (by decide +kernel) (pa_cons (pv 0) pa_nil)) (pe_call G_text (hr.mono (by decide)) rfl T.m_text T.F_text.kp T.b_text .nil pass0 (pa_cons (pv 1) pa_nil)) (nomark _)) (pe_one (pe_call G_is (hr.mono (by decide)) rfl T.m_is T.F_is.kp T.b_is .nil pass0 (pa_cons (pe_call G_as_ratio (hr.mono (by decide)) rfl T.m_as_ratio T.F_as_ratio.kp T.b_as_ratio .nil pass0 (pa_cons (pv 0) pa_nil)) (pa_cons (pv 1) pa_nil)))))))))), ?_⟩
    refine ⟨fun σ H' => σ = [some (.ref p), some (.ref q), some (.int (sgnI t))] ∧ H' = H, ?_, ?_⟩
    · refine ⟨_, rfl, q, _, 0, .int t, rfl, rfl, SqT.of hq, rfl, rfl, _, rfl, ite2 (fun h1 => ?_) fun h1 => ?_⟩
      · have h1' : t ≠ 0 := fun z => by
          rw [z] at h1
          cases h1
        refine ⟨_, rfl, q, _, 0, .int t, rfl, rfl, SqT.of hq, rfl, t, 0, rfl, rfl, .inr ⟨_, rfl, 2, _, rfl, rfl, .inl ⟨by decide, by decide⟩, 1, _, rfl, rfl, ?_, rfl⟩⟩
        have e : (1 : Int) - 2 * (if decide (t < 0) = true then 1 else 0) = sgnI t := by
          unfold sgnI
          by_cases h2 : t < 0
          · rw [if_pos (decide_eq_true h2), if_pos h2]; rfl
          · rw [if_neg (fun z => h2 (of_decide_eq_true z)), if_neg h2, if_pos (by omega)]; rfl
        show [some (V.ref p), some (V.ref q), some (V.int (1 - 2 * (if decide (t < 0) = true then 1 else 0)))] = _
        rw [e]
      · have h1' : t = 0 := by
          have h2 : (!decide (V.int t = V.int 0)) = false := by simpa using h1
          have h3 : decide (V.int t = V.int 0) = true := by simpa using h2
          have := of_decide_eq_true h3
          injection this
        rw [h1']
        exact ⟨rfl, rfl⟩
    rintro σ H' ⟨rfl, rfl⟩
    refine ⟨_, rfl, _, rfl, p, q, t, b, rfl, r, hq, fun H1 s1 => ⟨_, rfl, iteF ?_⟩⟩
    refine ⟨_, rfl, p, dx, _, rfl, s1 _ _ hp, p, t, b, rfl, ⟨dx, s1 _ _ hp⟩, .int (sgnI t), .ty "int", .type "int", .type "int", true, rfl, .ty _, .base (.int _), kit_ty (by decide +kernel), true, rfl, iteF ?_⟩
    refine ⟨_, rfl, p, dx, _, rfl, s1 _ _ hp, p, t, b, rfl, ⟨dx, s1 _ _ hp⟩, _, rfl, rfl, _, rfl, iteNS rfl ?_⟩
    refine ⟨_, rfl, p, dx, _, rfl, s1 _ _ hp, p, t, b, rfl, ⟨dx, s1 _ _ hp⟩, ht, hb, fun H2 s2 => ⟨_, rfl, ?_⟩⟩
    refine ⟨_, rfl, q, t, b, rfl, s2 _ _ (s1 _ _ hq), ht, hb, rfl, true, by rw [decide_eq_true rfl], iteT ?_⟩
    refine ⟨_, rfl, .inr ⟨p, t, b, rfl, ⟨dx, s2 _ _ (s1 _ _ hp)⟩, ?_⟩⟩
    exact ⟨_, rfl, p, q, t, b, rfl, ⟨dx, s2 _ _ (s1 _ _ hp)⟩, s2 _ _ (s1 _ _ hq), fun H3 s3 => k H3 ((s1.trans s2).trans s3)⟩
/-- two equal ratios -/
def REq (C : Addr) : Addr → Addr → Hp → Prop := fun a b H => ∃ t c : Int, RatAt C H a t c ∧ RatAt C H b t c
theorem ok_eq (T : Txt K mg) : FnOk P w K mg base CX0 1 T.f_Ratio_eq T.d_Ratio_eq ["self", "other"] (spEq (REq T.f_Ratio)) := by
  refine T.F_Ratio_eq.ok sc_Ratio_eq (fun vs H Q E h => ?_) (fun cdv A outer s H vs Q E hr h => ?_)
  · obtain ⟨a, b, rfl, _⟩ := h
    rfl
  · obtain ⟨a, b, rfl, ⟨t, c, ra, rb⟩, k⟩ := h
    obtain ⟨da, ha⟩ := id ra
    obtain ⟨db, hb⟩ := id rb
    refine ⟨_, (pss_one (ps_ret (pe_and (pe_callB call_isi (by rfl) T.n_isinstance (by decide +kernel) (pa_cons (pv 1) (pa_cons (pe_glob (v := .ref T.f_Ratio) rfl T.m_Ratio rfl) pa_nil))) (pe_and (pe_cmpR op_eq (pe_fld (pv 0) rfl) (pe_fld (pv 1) rfl) (nomark _)) (pe_one (pe_cmpR op_eq (pe_fld (pv 0) rfl) (pe_fld (pv 1) rfl) (nomark _))))))), ?_⟩
    refine ⟨_, rfl, .ref b, .ref T.f_Ratio, .ref T.f_Ratio, .ref T.f_Ratio, true, rfl, .own _, tyR T.ic_Ratio rb, kit_self, true, rfl, iteT ?_⟩
    refine ⟨_, rfl, a, T.f_Ratio, da, _, _, rfl, ha, T.cl_Ratio, T.na_Ratio_top, rf_top _ _, _, rfl, b, T.f_Ratio, db, _, _, rfl, hb, T.cl_Ratio, T.na_Ratio_top, rf_top _ _, rfl, true, by rw [decide_eq_true rfl], iteT ?_⟩
    refine ⟨_, rfl, a, T.f_Ratio, da, _, _, rfl, ha, T.cl_Ratio, T.na_Ratio_bottom, rf_bottom _ _, _, rfl, b, T.f_Ratio, db, _, _, rfl, hb, T.cl_Ratio, T.na_Ratio_bottom, rf_bottom _ _, rfl, ?_⟩
    rw [decide_eq_true rfl]
    exact k _ fun _ _ z => z
end

/-! ### lowest terms -/
theorem dvs_abs (t b : Int) : (dvs t b).natAbs = Nat.gcd t.natAbs b.natAbs := by
  unfold dvs
  split <;> omega
theorem dvs_dvd_t (t b : Int) : dvs t b ∣ t := Int.natAbs_dvd_natAbs.mp (by rw [dvs_abs]; exact Nat.gcd_dvd_left _ _)
theorem dvs_dvd_b (t b : Int) : dvs t b ∣ b := Int.natAbs_dvd_natAbs.mp (by rw [dvs_abs]; exact Nat.gcd_dvd_right _ _)
theorem fdiv_mul {a d : Int} (h : d ∣ a) : a.fdiv d * d = a := by
  obtain ⟨c, rfl⟩ := h
  by_cases hd : d = 0
  · subst hd; simp
  · rw [Int.mul_comm d c, Int.mul_fdiv_cancel _ hd]
theorem lowT_mul (t b : Int) : lowT t b * dvs t b = t := fdiv_mul (dvs_dvd_t t b)
theorem lowB_mul (t b : Int) : lowB t b * dvs t b = b := fdiv_mul (dvs_dvd_b t b)
theorem lowT_le {t b : Int} (h : b ≠ 0) : (lowT t b).natAbs ≤ t.natAbs := by
  have e := congrArg Int.natAbs (lowT_mul t b)
  rw [Int.natAbs_mul] at e
  have hd : 0 < (dvs t b).natAbs := by have := dvs_ne (t := t) h; omega
  rw [← e]
  exact Nat.le_mul_of_pos_right _ hd
theorem lowB_le {t b : Int} (h : b ≠ 0) : (lowB t b).natAbs ≤ b.natAbs := by
  have e := congrArg Int.natAbs (lowB_mul t b)
  rw [Int.natAbs_mul] at e
  have hd : 0 < (dvs t b).natAbs := by have := dvs_ne (t := t) h; omega
  rw [← e]
  exact Nat.le_mul_of_pos_right _ hd
theorem lowB_pos {t b : Int} (h : b ≠ 0) : 0 < lowB t b := by
  have e := lowB_mul t b
  have hg : 0 < Nat.gcd t.natAbs b.natAbs := Nat.gcd_pos_of_pos_right _ (by omega)
  by_cases hb : b < 0
  · have hd : dvs t b < 0 := by unfold dvs; rw [if_pos hb]; omega
    rcases Int.lt_trichotomy (lowB t b) 0 with q | q | q
    · have : 0 < lowB t b * dvs t b := Int.mul_pos_of_neg_of_neg q hd
      omega
    · rw [q, Int.zero_mul] at e; omega
    · exact q
  · have hd : 0 < dvs t b := by unfold dvs; rw [if_neg hb]; omega
    rcases Int.lt_trichotomy (lowB t b) 0 with q | q | q
    · have : lowB t b * dvs t b < 0 := Int.mul_neg_of_neg_of_pos q hd
      omega
    · rw [q, Int.zero_mul] at e; omega
    · exact q
theorem low_gcd {t b : Int} (h : b ≠ 0) : Nat.gcd (lowT t b).natAbs (lowB t b).natAbs = 1 := by
  have e1 := congrArg Int.natAbs (lowT_mul t b)
  have e2 := congrArg Int.natAbs (lowB_mul t b)
  rw [Int.natAbs_mul, dvs_abs] at e1 e2
  have hg : 0 < Nat.gcd t.natAbs b.natAbs := Nat.gcd_pos_of_pos_right _ (by omega)
  have e3 : Nat.gcd (lowT t b).natAbs (lowB t b).natAbs * Nat.gcd t.natAbs b.natAbs = 1 * Nat.gcd t.natAbs b.natAbs := by
    rw [← Nat.gcd_mul_right, e1, e2, Nat.one_mul]
  exact Nat.eq_of_mul_eq_mul_right hg e3
theorem low_same {t b : Int} (hb : 0 < b) (hg : Nat.gcd t.natAbs b.natAbs = 1) : lowT t b = t ∧ lowB t b = b := by
  have e : dvs t b = 1 := by
    unfold dvs
    rw [if_neg (by omega), hg]
    rfl
  unfold lowT lowB
  rw [e, Int.fdiv_one, Int.fdiv_one]
  exact ⟨rfl, rfl⟩
theorem low_low {t b : Int} (h : b ≠ 0) : lowT (lowT t b) (lowB t b) = lowT t b ∧ lowB (lowT t b) (lowB t b) = lowB t b := low_same (lowB_pos h) (low_gcd h)
theorem dec_small {n : Int} (h0 : ¬ n < 0) (h : ¬ (9 : Int) < ((dec n).length : Int)) : n.natAbs < 10 ^ 9 := by
  rcases Nat.lt_or_ge n.natAbs (10 ^ 9) with q | q
  · exact q
  · have := PyProof.Rows.digits10_ge q
    rw [TL.len_tl, dec_nn h0] at h
    have e : (TL.numL n.natAbs).length = (Nat.toDigits 10 n.natAbs).length := by unfold TL.numL; rw [List.length_map]
    omega

section
variable {P : Program} {w : World} {K : PySem.W.Frag} {mg : Str → Option Value} {base : Heap}
def spLaw (K : PySem.W.Frag) : Sp := fun vs H Q _ => ∃ (a : Addr) (ns : List Int), vs = [.ref a] ∧ SqL K H a (ns.map V.int) ∧ ns.length ≤ 63 ∧ ∀ H', Q (.bl true) H'
theorem big_of {z : Int} (h : z.natAbs < 10 ^ 64) : BIG z := Nat.lt_of_lt_of_le h (by decide +kernel)
theorem mul_small {a b : Int} (ha : a.natAbs ≤ 10 ^ 30) (hb : b.natAbs ≤ 10 ^ 30) : (a * b).natAbs < 10 ^ 64 := by
  rw [Int.natAbs_mul]
  exact Nat.lt_of_le_of_lt (Nat.mul_le_mul ha hb) (by decide +kernel)
theorem le_small {a : Int} (ha : a.natAbs ≤ 10 ^ 30) : a.natAbs < 10 ^ 64 := Nat.lt_of_le_of_lt ha (by decide +kernel)
theorem cmul {a b : Int} (ha : a.natAbs ≤ 10 ^ 30) (hb : b.natAbs ≤ 10 ^ 30) : CMulW a b := wide_mul (a := 200) (b := 200) (Nat.lt_of_le_of_lt ha (by decide +kernel)) (Nat.lt_of_le_of_lt hb (by decide +kernel)) (by decide) (by decide) (by decide)
theorem ok_law {f : Addr} {fd : FuncData} (T : Txt K mg) (F : Fun K "law" "law" s_law f fd) : FnOk P w K mg base CX0 7 f fd ["_law_script"] (spLaw K) := by
  have G_start : FnOk P w K mg base CX0 1 T.f_start T.d_start ["_law_script"] (spStart K) := ok_start T
  have G_draw : FnOk P w K mg base CX0 1 T.f_draw T.d_draw ["_law_state", "_law_size"] spDraw := ok_draw T
  have G_integer : FnOk P w K mg base CX0 2 T.f_integer T.d_integer ["_law_state"] spInteger := ok_integer T
  have G_parts : FnOk P w K mg base CX0 5 T.f_parts T.d_parts ["_law_ratio", "_law_pair"] (spParts T.f_Ratio) := ok_parts T
  have G_Ratio_init : FnOk P w K mg base CX0 1 T.f_Ratio_init T.d_Ratio_init ["self", "top", "bottom"] (spInit T.f_Ratio) := ok_init T
  have G_is : FnOk P w K mg base CX0 3 T.f_is T.d_is ["_law_actual", "_law_pair"] (spIs T.f_Ratio) := ok_is T
  have G_as_ratio : FnOk P w K mg base CX0 3 T.f_as_ratio T.d_as_ratio ["value"] (spAs T.f_Ratio) := ok_as T
  have G_refused : FnOk P w K mg base CX0 6 T.f_refused T.d_refused ["_law_upper"] spRefused := ok_refused T
  have G_low : FnOk P w K mg base CX0 1 T.f_low T.d_low ["_law_up", "_law_down"] spLow := ok_low T
  have G_text : FnOk P w K mg base CX0 1 T.f_text T.d_text ["_law_pair"] spText := ok_text T
  have G_Ratio_read : FnOk P w K mg base CX0 3 T.f_Ratio_read T.d_Ratio_read ["cls", "text"] (spRead T.f_Ratio) := ok_read T
  have G_Ratio_str : FnOk P w K mg base CX0 2 T.f_Ratio_str T.d_Ratio_str ["self"] (spStr T.f_Ratio) := ok_str T
  have G_Ratio_eq : FnOk P w K mg base CX0 1 T.f_Ratio_eq T.d_Ratio_eq ["self", "other"] (spEq (REq T.f_Ratio)) := ok_eq T
  refine F.ok sc_law (fun vs H Q E h => ?_) (fun cdv A outer s H vs Q E hr h => ?_)
  · obtain ⟨a, ns, rfl, _⟩ := h
    rfl
  · obtain ⟨a, ns, rfl, hS, hlen, k⟩ := h
    refine ⟨_, (pss_cons (ps_set (i := 1) sc_law.nd rfl (Or.inl rfl) (pe_call G_start (hr.mono (by decide)) rfl T.m_start T.F_start.kp T.b_start .nil pass0 (pa_cons (pv 0) pa_nil)))
    (pss_cons (ps_set (i := 2) sc_law.nd rfl (Or.inl rfl) (pe_call G_integer (hr.mono (by decide)) rfl T.m_integer T.F_integer.kp T.b_integer .nil pass0 (pa_cons (pv 1) pa_nil)))
    (pss_cons (ps_set (i := 3) sc_law.nd rfl (Or.inl rfl) (pe_call G_integer (hr.mono (by decide)) rfl T.m_integer T.F_integer.kp T.b_integer .nil pass0 (pa_cons (pv 1) pa_nil)))
    (C8.pss_cut (ps_if (pt_cmpR op_eq (pe_call G_draw (hr.mono (by decide)) rfl T.m_draw T.F_draw.kp T.b_draw .nil pass0 (pa_cons (pv 1) (pa_cons pe_int pa_nil))) pe_int (nomark _))
      (pss_cons (ps_set (i := 4) sc_law.nd rfl (Or.inl rfl) (pe_call G_integer (hr.mono (by decide)) rfl T.m_integer T.F_integer.kp T.b_integer .nil pass0 (pa_cons (pv 1) pa_nil)))
    (pss_cons (ps_set (i := 2) sc_law.nd rfl (Or.inl rfl) (pe_op op_mulW (pv 2) (pv 4)))
    (pss_one (ps_set (i := 3) sc_law.nd rfl (Or.inl rfl) (pe_op op_mulW (pv 3) (pv 4))))))
      pss_nil)
    (pss_cons (ps_if (PW.pt (pw_or (pt_not (pt_val (pe_call G_parts (hr.mono (by decide)) rfl T.m_parts T.F_parts.kp T.b_parts .nil pass0 (pa_cons (pe_make T.mk_Ratio G_Ratio_init (hr.mono (by decide)) rfl T.m_Ratio T.b1_Ratio_init T.v1_Ratio_init pass0 (pa_cons (pv 2) pa_nil)) (pa_cons (pe_tup (pa_cons (pv 2) (pa_cons pe_int pa_nil))) pa_nil))))) (pw_or1 (pt_not (pt_val (pe_call G_is (hr.mono (by decide)) rfl T.m_is T.F_is.kp T.b_is .nil pass0 (pa_cons (pe_callK0 G_as_ratio (hr.mono (by decide)) rfl T.m_as_ratio T.F_as_ratio.kp T.kb_as_ratio_0_value pass0 (pk_cons (pv 2) pk_nil)) (pa_cons (pe_tup (pa_cons (pv 2) (pa_cons pe_int pa_nil))) pa_nil))))))))
      (pss_one (ps_ret pe_bl))
      pss_nil)
    (pss_cons (ps_if (PW.pt (pw_or (pt_cmpR op_eq (pv 3) pe_int (nomark _)) (pw_or1 (pt_cmpR op_eq (pe_call G_draw (hr.mono (by decide)) rfl T.m_draw T.F_draw.kp T.b_draw .nil pass0 (pa_cons (pv 1) (pa_cons pe_int pa_nil))) pe_int (nomark _)))))
      (pss_one (ps_ret (pe_call G_refused (hr.mono (by decide)) rfl T.m_refused T.F_refused.kp T.b_refused .nil pass0 (pa_cons (pv 2) pa_nil))))
      pss_nil)
    (pss_cons (ps_set (i := 5) sc_law.nd rfl (Or.inl rfl) (pe_call G_low (hr.mono (by decide)) rfl T.m_low T.F_low.kp T.b_low .nil pass0 (pa_cons (pv 2) (pa_cons (pv 3) pa_nil))))
    (pss_cons (ps_set (i := 6) sc_law.nd rfl (Or.inl rfl) (pe_makeK0 T.mk_Ratio G_Ratio_init (hr.mono (by decide)) rfl T.m_Ratio T.kb_Ratio_init_bottom_top pass0 (pk_cons (pv 3) (pk_cons (pv 2) pk_nil))))
    (pss_cons (ps_if (PW.pt (pw_or (pt_not (pt_val (pe_call G_parts (hr.mono (by decide)) rfl T.m_parts T.F_parts.kp T.b_parts .nil pass0 (pa_cons (pv 6) (pa_cons (pv 5) pa_nil))))) (pw_or1 (pt_not (pt_val (pe_call G_parts (hr.mono (by decide)) rfl T.m_parts T.F_parts.kp T.b_parts .nil pass0 (pa_cons (pe_make T.mk_Ratio G_Ratio_init (hr.mono (by decide)) rfl T.m_Ratio T.b2_Ratio_init T.v2_Ratio_init pass0 (pa_cons (pv 2) (pa_cons (pv 3) pa_nil))) (pa_cons (pv 5) pa_nil))))))))
      (pss_one (ps_ret pe_bl))
      pss_nil)
    (pss_cons (ps_if (PW.pt (pw_or (pt_cmpR op_gt (pe_callB call_len_str (by rfl) T.n_len (by decide +kernel) (pa_cons (pe_callTy call_str_int (by rfl) T.n_str (by decide +kernel) (pa_cons (pe_callB call_abs (by rfl) T.n_abs (by decide +kernel) (pa_cons (pe_ix ix_tup (pv 5) pe_int (fun _ _ => rfl)) pa_nil)) pa_nil)) pa_nil)) pe_int (nomark _)) (pw_or1 (pt_cmpR op_gt (pe_callB call_len_str (by rfl) T.n_len (by decide +kernel) (pa_cons (pe_callTy call_str_int (by rfl) T.n_str (by decide +kernel) (pa_cons (pe_ix ix_tup (pv 5) pe_int (fun _ _ => rfl)) pa_nil)) pa_nil)) pe_int (nomark _)))))
      (pss_one (ps_ret pe_bl))
      pss_nil)
    (pss_one (ps_ret (pe_and (pe_call G_parts (hr.mono (by decide)) rfl T.m_parts T.F_parts.kp T.b_parts .nil pass0 (pa_cons (ClX.pe_cmeth (pe_glob (v := .ref T.f_Ratio) rfl T.m_Ratio rfl) T.cr_Ratio T.cm_Ratio_read (G_Ratio_read.raw T.b_Ratio_read .nil) (hr.mono (by decide)) pass0 (pa_cons (pe_call G_text (hr.mono (by decide)) rfl T.m_text T.F_text.kp T.b_text .nil pass0 (pa_cons (pv 5) pa_nil)) pa_nil)) (pa_cons (pv 5) pa_nil))) (pe_one (pe_cmpR (op_eqG (rcG_ins (R := REq T.f_Ratio) G_Ratio_eq T.a_Ratio_eq T.i_Ratio_eq T.b_Ratio_eq pass0) (hr.mono (by decide))) (pv 6) (pe_cmethK0 (pe_glob (v := .ref T.f_Ratio) rfl T.m_Ratio rfl) T.cr_Ratio T.cm_Ratio_read G_Ratio_read (hr.mono (by decide)) pass0 (pk_cons (pe_callTy (call_strO T.a_Ratio_str T.i_Ratio_str G_Ratio_str (hr.mono (by decide)) T.b_Ratio_str pass0) (by rfl) T.n_str (by decide +kernel) (pa_cons (pv 6) pa_nil)) pk_nil) T.kb_Ratio_read_text) (nomark _)))))))))))))))), ?_⟩
    -- the draws
    refine ⟨_, rfl, a, ns, rfl, hS, hlen, fun st H1 d1 => ?_⟩
    refine ⟨_, rfl, H, st, 0, rfl, d1, by decide, fun u0 H2 hu0 d2 => ?_⟩
    refine ⟨_, rfl, H, st, 2, rfl, d2, by decide, fun l0 H3 hl0 d3 => ?_⟩
    refine ⟨fun σ H4 => ∃ (u l : Int) (x4 : Option V), σ = [some (.ref a), some (.ref st), some (.int u), some (.int l), x4, none, none] ∧ u.natAbs < 10 ^ 64 ∧ l.natAbs < 10 ^ 64 ∧ DSt H H4 st 7, ?_, ?_⟩
    · refine ⟨_, rfl, H, st, 4, 3, rfl, d3, by decide, by decide, by decide, fun r H4 r0 r1 d4 => ?_⟩
      refine ⟨rfl, _, rfl, ite2 (fun _ => ?_) fun _ => ?_⟩
      · refine ⟨_, rfl, H, st, 5, rfl, d4, by decide, fun f0 H5 hf0 d5 => ?_⟩
        refine ⟨_, rfl, _, rfl, _, _, rfl, rfl, cmul hu0 hf0, ?_⟩
        refine ⟨_, rfl, _, rfl, _, _, rfl, rfl, cmul hl0 hf0, ?_⟩
        exact ⟨_, _, _, rfl, mul_small hu0 hf0, mul_small hl0 hf0, d5⟩
      · exact ⟨u0, l0, none, rfl, le_small hu0, le_small hl0, d4.mono (by decide)⟩
    rintro σ H4 ⟨u, l, x4, rfl, hu, hl, d4⟩
    -- Ratio(upper), as_ratio(value=upper)
    have o1 : (1 : Int).natAbs < 10 ^ 64 := by decide +kernel
    refine ⟨_, rfl, fun p dp0 np ndp nep => ⟨p, dp0, u, 1, rfl, upd_same, by decide, big_one, fun H5 r5 st5 => ⟨rfl, ?_⟩⟩⟩
    have s5 := Same.made np ndp st5
    rw [(low_one u).1, (low_one u).2] at r5
    obtain ⟨dp, hp5⟩ := id r5
    refine ⟨_, rfl, by show 2 ≤ sizeLine; decide, fun q hq => ?_⟩
    refine ⟨p, q, u, 1, rfl, ⟨dp, same_upd hq _ _ hp5⟩, upd_same, hu, o1, fun H6 s6 => ⟨_, rfl, iteF ?_⟩⟩
    refine ⟨_, rfl, .inl ⟨u, rfl, fun p2 H7 np2 s7 r7 => ?_⟩⟩
    obtain ⟨dp2, hp7⟩ := id r7
    refine ⟨_, rfl, by show 2 ≤ sizeLine; decide, fun q2 hq2 => ?_⟩
    refine ⟨p2, q2, u, 1, rfl, ⟨dp2, same_upd hq2 _ _ hp7⟩, upd_same, fun H8 s8 => ⟨_, rfl, iteF ?_⟩⟩
    have s48 : Same H4 H8 := (((((s5.trans (same_upd hq)).trans s6).trans s7).trans (same_upd hq2))).trans s8
    -- a lower integer of 0, or none drawn
    refine ⟨_, rfl, rfl, _, rfl, ite2 (fun _ => ?_) fun h0 => ?_⟩
    · exact iteT ⟨_, rfl, u, rfl, k⟩
    have hl0 : l ≠ 0 := fun z => h0 (by rw [z]; rfl)
    refine ⟨_, rfl, H, st, 7, 9, rfl, d4.on s48, by decide, by decide, by decide, fun r H9 r0 r1 d9 => ?_⟩
    refine ⟨rfl, _, rfl, ite2 (fun _ => ?_) fun _ => ?_⟩
    · exact ⟨_, rfl, u, rfl, k⟩
    have hB : BIG l := big_of hl
    have ht : (lowT u l).natAbs < 10 ^ 64 := Nat.lt_of_le_of_lt (lowT_le hl0) hu
    have hb : (lowB u l).natAbs < 10 ^ 64 := Nat.lt_of_le_of_lt (lowB_le hl0) hl
    have hbp := lowB_pos (t := u) hl0
    -- pair = _law_low(upper, lower); ratio = Ratio(bottom=lower, top=upper)
    refine ⟨_, rfl, _, rfl, u, l, rfl, hl0, hB, fun pr H10 npr s10 epr => ?_⟩
    refine ⟨_, rfl, _, rfl, rfl, rfl, fun ra dra0 nra ndra nera => ⟨ra, dra0, u, l, rfl, upd_same, hl0, hB, fun H11 r11 st11 => ⟨rfl, ?_⟩⟩⟩
    have s11 := Same.made nra ndra st11
    obtain ⟨dra, hra⟩ := id r11
    have epr11 := s11 _ _ epr
    refine ⟨_, rfl, _, rfl, ra, pr, _, _, rfl, r11, epr11, ht, hb, fun H12 s12 => ⟨_, rfl, iteF ?_⟩⟩
    refine ⟨_, rfl, _, rfl, fun rb drb0 nrb ndrb nerb => ⟨rb, drb0, u, l, rfl, upd_same, hl0, hB, fun H13 r13 st13 => ⟨rfl, ?_⟩⟩⟩
    have s13 := Same.made nrb ndrb st13
    have epr13 := s13 _ _ (s12 _ _ epr11)
    refine ⟨_, rfl, rb, pr, _, _, rfl, r13, epr13, ht, hb, fun H14 s14 => ⟨_, rfl, iteF ?_⟩⟩
    have epr14 := s14 _ _ epr13
    have hra14 := s14 _ _ (s13 _ _ (s12 _ _ hra))
    -- long numbers are not read
    refine ⟨_, rfl, pr, _, 0, _, rfl, rfl, SqT.of epr14, rfl, _, rfl, ?_⟩
    rw [abs_of]
    have hta : (((lowT u l).natAbs : Nat) : Int).natAbs < 10 ^ 64 := by rw [Int.natAbs_natCast]; exact ht
    refine ⟨_, rfl, log_small hta, _, rfl, Nat.le_trans (dec_len (by decide) hta) (by decide), _, 9, rfl, rfl, _, rfl, ite2 (fun _ => ?_) fun g1 => ?_⟩
    · exact iteT (k _)
    refine ⟨_, rfl, pr, _, 1, _, rfl, rfl, SqT.of epr14, rfl, _, rfl, log_small hb, _, rfl, Nat.le_trans (dec_len (by decide) hb) (by decide), _, 9, rfl, rfl, _, rfl, ite2 (fun _ => ?_) fun g2 => ?_⟩
    · exact k _
    have t9 : (lowT u l).natAbs < 10 ^ 9 := by
      have := dec_small (n := (((lowT u l).natAbs : Nat) : Int)) (by omega) (fun z => g1 (decide_eq_true z))
      rw [Int.natAbs_natCast] at this
      exact this
    have b9 : (lowB u l).natAbs < 10 ^ 9 := dec_small (by omega) (fun z => g2 (decide_eq_true z))
    obtain ⟨tb1, tb2, tb3⟩ := text_back t9 hbp b9
    have tlen : (ratText (lowT u l) (lowB u l)).length ≤ 900 := Nat.le_trans (ratText_len ht hb) (by decide)
    obtain ⟨ll1, ll2⟩ := low_low (t := u) hl0
    -- read from the text
    refine ⟨rfl, _, rfl, pr, _, _, rfl, epr14, ht, hb, _, rfl, tlen, tb1, fun rc H15 nrc s15 r15 => ?_⟩
    rw [tb2, tb3, ll1, ll2] at r15
    have epr15 := s15 _ _ epr14
    refine ⟨_, rfl, rc, pr, _, _, rfl, r15, epr15, ht, hb, fun H16 s16 => ⟨_, rfl, iteT ?_⟩⟩
    have hra16 := s16 _ _ (s15 _ _ hra14)
    refine ⟨_, rfl, rfl, _, rfl, ra, dra, _, rfl, hra16, ra, _, _, rfl, ⟨dra, hra16⟩, ht, hb, fun H17 s17 => ⟨_, rfl, ?_⟩⟩
    refine ⟨rfl, _, rfl, tlen, tb1, fun rd H18 nrd s18 r18 => ?_⟩
    rw [tb2, tb3, ll1, ll2] at r18
    obtain ⟨drd, hrd⟩ := id r18
    have hra18 := s18 _ _ (s17 _ _ hra16)
    exact ⟨⟨ra, rd, dra, drd, _, _, rfl, rfl, hra18, hrd, _, _, ⟨dra, hra18⟩, r18⟩, fun H19 _ => k H19⟩
end
theorem all_mk {l : PySem.W.OpenLaw} {w : World} {K : PySem.W.Frag} {h : Heap} {mg : Str → Option Value} {f_OutOfRange f_Ratio f_ExtralinkError f_as_ratio f_is_number f_numeral f_start f_draw f_low f_is f_integer f_refused f_text f_parts f_OutOfRange_init f_Ratio_init dT_Ratio_init f_Ratio_read p_Ratio_read f_Ratio_top p_Ratio_top f_Ratio_bottom p_Ratio_bottom f_Ratio_sign p_Ratio_sign f_Ratio_eq f_Ratio_str fa f_law : Addr} {od_as_ratio an_as_ratio od_is_number an_is_number od_numeral an_numeral od_start an_start od_draw an_draw od_low an_low od_is an_is od_integer an_integer od_refused an_refused od_text an_text od_parts an_parts od_OutOfRange_init an_OutOfRange_init od_Ratio_init an_Ratio_init dd0_Ratio_init od_Ratio_read an_Ratio_read od_Ratio_top an_Ratio_top od_Ratio_bottom an_Ratio_bottom od_Ratio_sign an_Ratio_sign od_Ratio_eq an_Ratio_eq od_Ratio_str an_Ratio_str od_law an_law : Option Addr} {sl_as_ratio sl_is_number sl_numeral sl_start sl_draw sl_low sl_is sl_integer sl_refused sl_text sl_parts sl_OutOfRange_init sl_Ratio_init ds_Ratio_init sl_Ratio_read sl_Ratio_top sl_Ratio_bottom sl_Ratio_sign sl_Ratio_eq sl_Ratio_str sl_law : Array (Option Value)} {oc_as_ratio kV_as_ratio dc_as_ratio pm_as_ratio cd_as_ratio ct_as_ratio oc_is_number kV_is_number dc_is_number pm_is_number cd_is_number ct_is_number oc_numeral kV_numeral dc_numeral pm_numeral cd_numeral ct_numeral oc_start kV_start dc_start pm_start cd_start ct_start oc_draw kV_draw dc_draw pm_draw cd_draw ct_draw oc_low kV_low dc_low pm_low cd_low ct_low oc_is kV_is dc_is pm_is cd_is ct_is oc_integer kV_integer dc_integer pm_integer cd_integer ct_integer oc_refused kV_refused dc_refused pm_refused cd_refused ct_refused oc_text kV_text dc_text pm_text cd_text ct_text oc_parts kV_parts dc_parts pm_parts cd_parts ct_parts oc_OutOfRange_init kV_OutOfRange_init dc_OutOfRange_init pm_OutOfRange_init cd_OutOfRange_init ct_OutOfRange_init oc_Ratio_init kV_Ratio_init dc_Ratio_init pm_Ratio_init cd_Ratio_init ct_Ratio_init dc0_Ratio_init oc_Ratio_read kV_Ratio_read dc_Ratio_read pm_Ratio_read cd_Ratio_read ct_Ratio_read oc_Ratio_top kV_Ratio_top dc_Ratio_top pm_Ratio_top cd_Ratio_top ct_Ratio_top oc_Ratio_bottom kV_Ratio_bottom dc_Ratio_bottom pm_Ratio_bottom cd_Ratio_bottom ct_Ratio_bottom oc_Ratio_sign kV_Ratio_sign dc_Ratio_sign pm_Ratio_sign cd_Ratio_sign ct_Ratio_sign oc_Ratio_eq kV_Ratio_eq dc_Ratio_eq pm_Ratio_eq cd_Ratio_eq ct_Ratio_eq oc_Ratio_str kV_Ratio_str dc_Ratio_str pm_Ratio_str cd_Ratio_str ct_Ratio_str oc_law kV_law dc_law pm_law cd_law ct_law : Value} {dt_Ratio_init t_DIGITS t_LONGEST_NUMBER t_PIECE t_PIECE_DIGITS : Tok} {dn_Ratio_init : Nat} {rs_Ratio_read rs_Ratio_top rs_Ratio_bottom rs_Ratio_sign : List Value} (X : K.In h) (G : h.Ns mainGlobals mg) (hfa : mg "law" = some (.ref fa))
    (a_OutOfRange : PySem.W.nsIn K mainGlobals "OutOfRange" = some (some (.ref f_OutOfRange)))
    (a_Ratio : PySem.W.nsIn K mainGlobals "Ratio" = some (some (.ref f_Ratio)))
    (pg_Ratio : PySem.W.plainGet K f_Ratio Str.empty = true)
    (hd_Ratio : PySem.W.hasDictIn K f_Ratio = true)
    (po_Ratio : PySem.W.plainOver K f_Ratio = true)
    (sa_Ratio : PySem.W.findIn K (.ref f_Ratio) "__setattr__" = some (some (.builtin "object.__setattr__")))
    (mk_Ratio : PySem.W.makesIn K f_Ratio = true)
    (kc_Ratio : PySem.W.keepIn K (.ref f_Ratio) = true)
    (hc_Ratio : PySem.W.findIn K (.ref f_Ratio) "__class__" = some (some (.builtin "object.__class__")))
    (mo_Ratio : PySem.W.mroIn K f_Ratio (.type "object") = some true)
    (ic_Ratio : PySem.W.isClsIn K f_Ratio = true)
    (ty_Ratio : PySem.W.typeIn K (.ref f_Ratio) = some (.type "type"))
    (hn_class : PySem.W.specialIn K (.builtin "object.__class__") "__get__" = some (some (.builtin "getset_descriptor.__get__")))
    (ht_class : PySem.W.takesIn K (.builtin "object.__class__") = some true)
    (na_Ratio_top : PySem.W.findIn K (.ref f_Ratio) "_top" = some none)
    (na_Ratio_bottom : PySem.W.findIn K (.ref f_Ratio) "_bottom" = some none)
    (su_Ratio_int : PySem.W.subIn K (.type "int") (.ref f_Ratio) = some false)
    (a_ExtralinkError : PySem.W.nsIn K mainGlobals "ExtralinkError" = some (some (.ref f_ExtralinkError)))
    (a_as_ratio : PySem.W.nsIn K mainGlobals "as_ratio" = some (some (.ref f_as_ratio)))
    (l_as_ratio : K.lookup f_as_ratio = some ⟨oc_as_ratio, od_as_ratio, .func (PySem.W.fnOf "as_ratio" "as_ratio" (defArgs s_as_ratio) (defBody s_as_ratio) (defScope s_as_ratio) .none kV_as_ratio dc_as_ratio pm_as_ratio an_as_ratio cd_as_ratio ct_as_ratio), sl_as_ratio⟩)
    (c_as_ratio : PySem.W.codeIn K cd_as_ratio "as_ratio" = true)
    (k_as_ratio : PySem.W.keepIn K (.ref f_as_ratio) = true)
    (a_is_number : PySem.W.nsIn K mainGlobals "is_number" = some (some (.ref f_is_number)))
    (l_is_number : K.lookup f_is_number = some ⟨oc_is_number, od_is_number, .func (PySem.W.fnOf "is_number" "is_number" (defArgs s_is_number) (defBody s_is_number) (defScope s_is_number) .none kV_is_number dc_is_number pm_is_number an_is_number cd_is_number ct_is_number), sl_is_number⟩)
    (c_is_number : PySem.W.codeIn K cd_is_number "is_number" = true)
    (k_is_number : PySem.W.keepIn K (.ref f_is_number) = true)
    (a_numeral : PySem.W.nsIn K mainGlobals "numeral" = some (some (.ref f_numeral)))
    (l_numeral : K.lookup f_numeral = some ⟨oc_numeral, od_numeral, .func (PySem.W.fnOf "numeral" "numeral" (defArgs s_numeral) (defBody s_numeral) (defScope s_numeral) .none kV_numeral dc_numeral pm_numeral an_numeral cd_numeral ct_numeral), sl_numeral⟩)
    (c_numeral : PySem.W.codeIn K cd_numeral "numeral" = true)
    (k_numeral : PySem.W.keepIn K (.ref f_numeral) = true)
    (a_start : PySem.W.nsIn K mainGlobals "_law_start" = some (some (.ref f_start)))
    (l_start : K.lookup f_start = some ⟨oc_start, od_start, .func (PySem.W.fnOf "_law_start" "_law_start" (defArgs s_start) (defBody s_start) (defScope s_start) .none kV_start dc_start pm_start an_start cd_start ct_start), sl_start⟩)
    (c_start : PySem.W.codeIn K cd_start "_law_start" = true)
    (k_start : PySem.W.keepIn K (.ref f_start) = true)
    (a_draw : PySem.W.nsIn K mainGlobals "_law_draw" = some (some (.ref f_draw)))
    (l_draw : K.lookup f_draw = some ⟨oc_draw, od_draw, .func (PySem.W.fnOf "_law_draw" "_law_draw" (defArgs s_draw) (defBody s_draw) (defScope s_draw) .none kV_draw dc_draw pm_draw an_draw cd_draw ct_draw), sl_draw⟩)
    (c_draw : PySem.W.codeIn K cd_draw "_law_draw" = true)
    (k_draw : PySem.W.keepIn K (.ref f_draw) = true)
    (a_low : PySem.W.nsIn K mainGlobals "_law_low" = some (some (.ref f_low)))
    (l_low : K.lookup f_low = some ⟨oc_low, od_low, .func (PySem.W.fnOf "_law_low" "_law_low" (defArgs s_low) (defBody s_low) (defScope s_low) .none kV_low dc_low pm_low an_low cd_low ct_low), sl_low⟩)
    (c_low : PySem.W.codeIn K cd_low "_law_low" = true)
    (k_low : PySem.W.keepIn K (.ref f_low) = true)
    (a_is : PySem.W.nsIn K mainGlobals "_law_is" = some (some (.ref f_is)))
    (l_is : K.lookup f_is = some ⟨oc_is, od_is, .func (PySem.W.fnOf "_law_is" "_law_is" (defArgs s_is) (defBody s_is) (defScope s_is) .none kV_is dc_is pm_is an_is cd_is ct_is), sl_is⟩)
    (c_is : PySem.W.codeIn K cd_is "_law_is" = true)
    (k_is : PySem.W.keepIn K (.ref f_is) = true)
    (a_integer : PySem.W.nsIn K mainGlobals "_law_integer" = some (some (.ref f_integer)))
    (l_integer : K.lookup f_integer = some ⟨oc_integer, od_integer, .func (PySem.W.fnOf "_law_integer" "_law_integer" (defArgs s_integer) (defBody s_integer) (defScope s_integer) .none kV_integer dc_integer pm_integer an_integer cd_integer ct_integer), sl_integer⟩)
    (c_integer : PySem.W.codeIn K cd_integer "_law_integer" = true)
    (k_integer : PySem.W.keepIn K (.ref f_integer) = true)
    (a_refused : PySem.W.nsIn K mainGlobals "_law_refused" = some (some (.ref f_refused)))
    (l_refused : K.lookup f_refused = some ⟨oc_refused, od_refused, .func (PySem.W.fnOf "_law_refused" "_law_refused" (defArgs s_refused) (defBody s_refused) (defScope s_refused) .none kV_refused dc_refused pm_refused an_refused cd_refused ct_refused), sl_refused⟩)
    (c_refused : PySem.W.codeIn K cd_refused "_law_refused" = true)
    (k_refused : PySem.W.keepIn K (.ref f_refused) = true)
    (a_text : PySem.W.nsIn K mainGlobals "_law_text" = some (some (.ref f_text)))
    (l_text : K.lookup f_text = some ⟨oc_text, od_text, .func (PySem.W.fnOf "_law_text" "_law_text" (defArgs s_text) (defBody s_text) (defScope s_text) .none kV_text dc_text pm_text an_text cd_text ct_text), sl_text⟩)
    (c_text : PySem.W.codeIn K cd_text "_law_text" = true)
    (k_text : PySem.W.keepIn K (.ref f_text) = true)
    (a_parts : PySem.W.nsIn K mainGlobals "_law_parts" = some (some (.ref f_parts)))
    (l_parts : K.lookup f_parts = some ⟨oc_parts, od_parts, .func (PySem.W.fnOf "_law_parts" "_law_parts" (defArgs s_parts) (defBody s_parts) (defScope s_parts) .none kV_parts dc_parts pm_parts an_parts cd_parts ct_parts), sl_parts⟩)
    (c_parts : PySem.W.codeIn K cd_parts "_law_parts" = true)
    (k_parts : PySem.W.keepIn K (.ref f_parts) = true)
    (a_OutOfRange_init : PySem.W.findIn K (.ref f_OutOfRange) "__init__" = some (some (.ref f_OutOfRange_init)))
    (i_OutOfRange_init : PySem.W.isFn K (.ref f_OutOfRange_init) = true)
    (l_OutOfRange_init : K.lookup f_OutOfRange_init = some ⟨oc_OutOfRange_init, od_OutOfRange_init, .func (PySem.W.fnOf "__init__" "OutOfRange.__init__" (defArgs s_OutOfRange_init) (defBody s_OutOfRange_init) (defScope s_OutOfRange_init) .none kV_OutOfRange_init dc_OutOfRange_init pm_OutOfRange_init an_OutOfRange_init cd_OutOfRange_init ct_OutOfRange_init), sl_OutOfRange_init⟩)
    (c_OutOfRange_init : PySem.W.codeIn K cd_OutOfRange_init "OutOfRange.__init__" = true)
    (k_OutOfRange_init : PySem.W.keepIn K (.ref f_OutOfRange_init) = true)
    (a_Ratio_init : PySem.W.findIn K (.ref f_Ratio) "__init__" = some (some (.ref f_Ratio_init)))
    (i_Ratio_init : PySem.W.isFn K (.ref f_Ratio_init) = true)
    (l_Ratio_init : K.lookup f_Ratio_init = some ⟨oc_Ratio_init, od_Ratio_init, .func (PySem.W.fnOf "__init__" "Ratio.__init__" (defArgs s_Ratio_init) (defBody s_Ratio_init) (defScope s_Ratio_init) (.ref dT_Ratio_init) kV_Ratio_init dc_Ratio_init pm_Ratio_init an_Ratio_init cd_Ratio_init ct_Ratio_init), sl_Ratio_init⟩)
    (c_Ratio_init : PySem.W.codeIn K cd_Ratio_init "Ratio.__init__" = true)
    (k_Ratio_init : PySem.W.keepIn K (.ref f_Ratio_init) = true)
    (t_Ratio_init : K.lookup dT_Ratio_init = some ⟨dc0_Ratio_init, dd0_Ratio_init, .seq #[.int 1 dt_Ratio_init] dn_Ratio_init, ds_Ratio_init⟩)
    (a_Ratio_read : PySem.W.findCls K (.ref f_Ratio) (.type "type") "read" = some (.get (.builtin "classmethod.__get__") (.ref p_Ratio_read) .none (.ref f_Ratio)))
    (pr_Ratio_read : PySem.W.recIn K p_Ratio_read "classmethod" = some (.ref f_Ratio_read :: rs_Ratio_read))
    (pf_Ratio_read : PySem.W.fnIn K f_Ratio_read = true)
    (rd_Ratio_read : PySem.W.readsIn K f_Ratio (.type "type") = true)
    (ga_Ratio_read : PySem.W.specialIn K (.ref f_Ratio) "__getattribute__" = some (some (.builtin "type.__getattribute__")))
    (l_Ratio_read : K.lookup f_Ratio_read = some ⟨oc_Ratio_read, od_Ratio_read, .func (PySem.W.fnOf "read" "Ratio.read" (defArgs s_Ratio_read) (defBody s_Ratio_read) (defScope s_Ratio_read) .none kV_Ratio_read dc_Ratio_read pm_Ratio_read an_Ratio_read cd_Ratio_read ct_Ratio_read), sl_Ratio_read⟩)
    (c_Ratio_read : PySem.W.codeIn K cd_Ratio_read "Ratio.read" = true)
    (k_Ratio_read : PySem.W.keepIn K (.ref f_Ratio_read) = true)
    (a_Ratio_top : PySem.W.findIn K (.ref f_Ratio) "top" = some (some (.ref p_Ratio_top)))
    (pg_Ratio_top : PySem.W.specialIn K (.ref p_Ratio_top) "__get__" = some (some (.builtin "property.__get__")))
    (pt_Ratio_top : PySem.W.takesIn K (.ref p_Ratio_top) = some true)
    (pr_Ratio_top : PySem.W.recIn K p_Ratio_top "property" = some (.ref f_Ratio_top :: rs_Ratio_top))
    (l_Ratio_top : K.lookup f_Ratio_top = some ⟨oc_Ratio_top, od_Ratio_top, .func (PySem.W.fnOf "top" "Ratio.top" (defArgs s_Ratio_top) (defBody s_Ratio_top) (defScope s_Ratio_top) .none kV_Ratio_top dc_Ratio_top pm_Ratio_top an_Ratio_top cd_Ratio_top ct_Ratio_top), sl_Ratio_top⟩)
    (c_Ratio_top : PySem.W.codeIn K cd_Ratio_top "Ratio.top" = true)
    (k_Ratio_top : PySem.W.keepIn K (.ref f_Ratio_top) = true)
    (a_Ratio_bottom : PySem.W.findIn K (.ref f_Ratio) "bottom" = some (some (.ref p_Ratio_bottom)))
    (pg_Ratio_bottom : PySem.W.specialIn K (.ref p_Ratio_bottom) "__get__" = some (some (.builtin "property.__get__")))
    (pt_Ratio_bottom : PySem.W.takesIn K (.ref p_Ratio_bottom) = some true)
    (pr_Ratio_bottom : PySem.W.recIn K p_Ratio_bottom "property" = some (.ref f_Ratio_bottom :: rs_Ratio_bottom))
    (l_Ratio_bottom : K.lookup f_Ratio_bottom = some ⟨oc_Ratio_bottom, od_Ratio_bottom, .func (PySem.W.fnOf "bottom" "Ratio.bottom" (defArgs s_Ratio_bottom) (defBody s_Ratio_bottom) (defScope s_Ratio_bottom) .none kV_Ratio_bottom dc_Ratio_bottom pm_Ratio_bottom an_Ratio_bottom cd_Ratio_bottom ct_Ratio_bottom), sl_Ratio_bottom⟩)
    (c_Ratio_bottom : PySem.W.codeIn K cd_Ratio_bottom "Ratio.bottom" = true)
    (k_Ratio_bottom : PySem.W.keepIn K (.ref f_Ratio_bottom) = true)
    (a_Ratio_sign : PySem.W.findIn K (.ref f_Ratio) "sign" = some (some (.ref p_Ratio_sign)))
    (pg_Ratio_sign : PySem.W.specialIn K (.ref p_Ratio_sign) "__get__" = some (some (.builtin "property.__get__")))
    (pt_Ratio_sign : PySem.W.takesIn K (.ref p_Ratio_sign) = some true)
    (pr_Ratio_sign : PySem.W.recIn K p_Ratio_sign "property" = some (.ref f_Ratio_sign :: rs_Ratio_sign))
    (l_Ratio_sign : K.lookup f_Ratio_sign = some ⟨oc_Ratio_sign, od_Ratio_sign, .func (PySem.W.fnOf "sign" "Ratio.sign" (defArgs s_Ratio_sign) (defBody s_Ratio_sign) (defScope s_Ratio_sign) .none kV_Ratio_sign dc_Ratio_sign pm_Ratio_sign an_Ratio_sign cd_Ratio_sign ct_Ratio_sign), sl_Ratio_sign⟩)
    (c_Ratio_sign : PySem.W.codeIn K cd_Ratio_sign "Ratio.sign" = true)
    (k_Ratio_sign : PySem.W.keepIn K (.ref f_Ratio_sign) = true)
    (a_Ratio_eq : PySem.W.findIn K (.ref f_Ratio) "__eq__" = some (some (.ref f_Ratio_eq)))
    (i_Ratio_eq : PySem.W.isFn K (.ref f_Ratio_eq) = true)
    (l_Ratio_eq : K.lookup f_Ratio_eq = some ⟨oc_Ratio_eq, od_Ratio_eq, .func (PySem.W.fnOf "__eq__" "Ratio.__eq__" (defArgs s_Ratio_eq) (defBody s_Ratio_eq) (defScope s_Ratio_eq) .none kV_Ratio_eq dc_Ratio_eq pm_Ratio_eq an_Ratio_eq cd_Ratio_eq ct_Ratio_eq), sl_Ratio_eq⟩)
    (c_Ratio_eq : PySem.W.codeIn K cd_Ratio_eq "Ratio.__eq__" = true)
    (k_Ratio_eq : PySem.W.keepIn K (.ref f_Ratio_eq) = true)
    (a_Ratio_str : PySem.W.findIn K (.ref f_Ratio) "__str__" = some (some (.ref f_Ratio_str)))
    (i_Ratio_str : PySem.W.isFn K (.ref f_Ratio_str) = true)
    (l_Ratio_str : K.lookup f_Ratio_str = some ⟨oc_Ratio_str, od_Ratio_str, .func (PySem.W.fnOf "__str__" "Ratio.__str__" (defArgs s_Ratio_str) (defBody s_Ratio_str) (defScope s_Ratio_str) .none kV_Ratio_str dc_Ratio_str pm_Ratio_str an_Ratio_str cd_Ratio_str ct_Ratio_str), sl_Ratio_str⟩)
    (c_Ratio_str : PySem.W.codeIn K cd_Ratio_str "Ratio.__str__" = true)
    (k_Ratio_str : PySem.W.keepIn K (.ref f_Ratio_str) = true)
    (x_OutOfRange : ∃ nm q N bs bm sn sub ab col dd k0 k1 k2 k3 k5, K.lookup f_OutOfRange = some (excClassObj nm q f_OutOfRange N bs bm true sn sub ab col dd k0 k1 k2 k3 k5 "ValueError.__new__") ∧ PySem.HandSPX.refsVE bm = true)
    (xs_OutOfRange : PySem.W.findIn K (.ref f_OutOfRange) "__setattr__" = some (some (.builtin "object.__setattr__")))
    (xe_OutOfRange : PySem.W.subIn K (.ref f_OutOfRange) (.type "BaseException") = some true)
    (xt_OutOfRange : PySem.W.typeIn K (.ref f_OutOfRange) = some (.type "type"))
    (xk_OutOfRange : PySem.W.keepIn K (.ref f_OutOfRange) = true)
    (xg_OutOfRange : PySem.W.findIn K (.ref f_OutOfRange) "__getattribute__" = some (some (.builtin "BaseException.__getattribute__")))
    (xh_OutOfRange : PySem.W.findIn K (.ref f_OutOfRange) "__getattr__" = some none)
    (xd_OutOfRange : PySem.W.hasDictIn K f_OutOfRange = true)
    (xc_OutOfRange : PySem.W.findIn K (.ref f_OutOfRange) "__class__" = some (some (.builtin "object.__class__")))
    (xm_OutOfRange : PySem.W.mroIn K f_OutOfRange (.type "object") = some true)
    (xi_OutOfRange : PySem.W.isClsIn K f_OutOfRange = true)
    (xf_OutOfRange : PySem.W.typeIn K (.ref f_OutOfRange_init) = some (.type "function"))
    (no_OutOfRange_value : PySem.W.findIn K (.ref f_OutOfRange) "value" = some none)
    (es_OutOfRange_OutOfRange : PySem.W.subIn K (.ref f_OutOfRange) (.ref f_OutOfRange) = some true)
    (es_OutOfRange_ExtralinkError : PySem.W.subIn K (.ref f_OutOfRange) (.ref f_ExtralinkError) = some true)
    (xi_ExtralinkError : PySem.W.isClsIn K f_ExtralinkError = true)
    (xt_ExtralinkError : PySem.W.typeIn K (.ref f_ExtralinkError) = some (.type "type"))
    (nq_OutOfRange_ExtralinkError : (decide (Value.ref f_OutOfRange = Value.ref f_ExtralinkError)) = false)
    (q_DIGITS : PySem.W.nsIn K mainGlobals "DIGITS" = some (some (.str ("0123456789" : Str) t_DIGITS)))
    (q_LONGEST_NUMBER : PySem.W.nsIn K mainGlobals "LONGEST_NUMBER" = some (some (.int 9 t_LONGEST_NUMBER)))
    (q_PIECE : PySem.W.nsIn K mainGlobals "PIECE" = some (some (.int 10000000000000000000000000000000000000000000000000000000000000000 t_PIECE)))
    (q_PIECE_DIGITS : PySem.W.nsIn K mainGlobals "PIECE_DIGITS" = some (some (.int 64 t_PIECE_DIGITS)))
    (g_gcd : PySem.W.nsIn K mainGlobals "gcd" = some (some (.builtin "math.gcd")))
    (z_abs : PySem.W.nsIn K mainGlobals "abs" = some none)
    (z_all : PySem.W.nsIn K mainGlobals "all" = some none)
    (z_divmod : PySem.W.nsIn K mainGlobals "divmod" = some none)
    (z_int : PySem.W.nsIn K mainGlobals "int" = some none)
    (z_isinstance : PySem.W.nsIn K mainGlobals "isinstance" = some none)
    (z_len : PySem.W.nsIn K mainGlobals "len" = some none)
    (z_list : PySem.W.nsIn K mainGlobals "list" = some none)
    (z_str : PySem.W.nsIn K mainGlobals "str" = some none)
    (a_law : PySem.W.nsIn K mainGlobals "law" = some (some (.ref f_law)))
    (l_law : K.lookup f_law = some ⟨oc_law, od_law, .func (PySem.W.fnOf "law" "law" (defArgs s_law) (defBody s_law) (defScope s_law) .none kV_law dc_law pm_law an_law cd_law ct_law), sl_law⟩)
    (c_law : PySem.W.codeIn K cd_law "law" = true)
    (k_law : PySem.W.keepIn K (.ref f_law) = true)
    : ∃ fd : FuncData, (∀ (s : Shared) (v : Value), BindsTo s fd ⟨[v], []⟩ [("_law_script", v)]) ∧ ∀ base : Heap, K.In base → base.Ns mainGlobals mg → FnOk l.prog w K mg base CX0 7 fa fd ["_law_script"] (spLaw K) := by
  have e := hfa.symm.trans (PySem.W.mg_of X G a_law)
  cases e
  obtain ⟨e1_Ratio_init, ev1_Ratio_init, eb1_Ratio_init⟩ := FunD.binds1 (K := K) (f := f_Ratio_init) (fd := PySem.W.fnOf "__init__" "Ratio.__init__" (defArgs s_Ratio_init) (defBody s_Ratio_init) (defScope s_Ratio_init) (.ref dT_Ratio_init) kV_Ratio_init dc_Ratio_init pm_Ratio_init an_Ratio_init cd_Ratio_init ct_Ratio_init) (dvs := [V.int 1]) (kws := []) (ps := ["self", "top", "bottom"]) ⟨⟨_, _, _, _, _, _, _, _, _, _, rfl, l_Ratio_init, c_Ratio_init, .inr ⟨by simp, _, _, [.int 1 dt_Ratio_init], _, rfl, t_Ratio_init, rfl, .cons ⟨_, rfl⟩ .nil⟩, .inl rfl⟩, k_Ratio_init⟩ 2 0 (by simp) rfl fun _ _ _ _ _ _ _ us its hl hi => match us, hl, its, hi with | [_, _], _, [_], _ => ⟨_, rfl, rfl⟩
  obtain ⟨e2_Ratio_init, ev2_Ratio_init, eb2_Ratio_init⟩ := FunD.binds1 (K := K) (f := f_Ratio_init) (fd := PySem.W.fnOf "__init__" "Ratio.__init__" (defArgs s_Ratio_init) (defBody s_Ratio_init) (defScope s_Ratio_init) (.ref dT_Ratio_init) kV_Ratio_init dc_Ratio_init pm_Ratio_init an_Ratio_init cd_Ratio_init ct_Ratio_init) (dvs := [V.int 1]) (kws := []) (ps := ["self", "top", "bottom"]) ⟨⟨_, _, _, _, _, _, _, _, _, _, rfl, l_Ratio_init, c_Ratio_init, .inr ⟨by simp, _, _, [.int 1 dt_Ratio_init], _, rfl, t_Ratio_init, rfl, .cons ⟨_, rfl⟩ .nil⟩, .inl rfl⟩, k_Ratio_init⟩ 3 1 (by simp) rfl fun _ _ _ _ _ _ _ us its hl hi => match us, hl, its, hi with | [_, _, _], _, [_], _ => ⟨_, rfl, rfl⟩
  obtain ⟨kits_Ratio_init, kb_Ratio_init⟩ := FunD.kbindsD (K := K) (f := f_Ratio_init) (fd := PySem.W.fnOf "__init__" "Ratio.__init__" (defArgs s_Ratio_init) (defBody s_Ratio_init) (defScope s_Ratio_init) (.ref dT_Ratio_init) kV_Ratio_init dc_Ratio_init pm_Ratio_init an_Ratio_init cd_Ratio_init ct_Ratio_init) (dvs := [V.int 1]) (kws := []) (ps := ["self", "top", "bottom"]) ⟨⟨_, _, _, _, _, _, _, _, _, _, rfl, l_Ratio_init, c_Ratio_init, .inr ⟨by simp, _, _, [.int 1 dt_Ratio_init], _, rfl, t_Ratio_init, rfl, .cons ⟨_, rfl⟩ .nil⟩, .inl rfl⟩, k_Ratio_init⟩ 1 ["bottom", "top"] (fun us _ ws => us ++ permL [1, 0] ws) (by simp) (fun r1 _ r3 => r1.append (permL_rel _ r3)) fun _ _ _ _ _ _ _ us its ws hl hi hw => match us, hl, its, hi, ws, hw with | [_], _, [_], _, [_, _], _ => ⟨_, rfl, rfl⟩
  have T : Txt K mg := {
    f_OutOfRange := f_OutOfRange,
    m_OutOfRange := PySem.W.mg_of X G a_OutOfRange,
    f_Ratio := f_Ratio,
    m_Ratio := PySem.W.mg_of X G a_Ratio,
    cl_Ratio := ⟨pg_Ratio, hd_Ratio, po_Ratio, sa_Ratio⟩,
    ic_Ratio := ⟨⟨pg_Ratio, hd_Ratio, po_Ratio, sa_Ratio⟩, hc_Ratio, hn_class, ht_class, mo_Ratio, kit_self⟩,
    na_Ratio_top := na_Ratio_top,
    na_Ratio_bottom := na_Ratio_bottom,
    ki_Ratio_int := kit_not ic_Ratio ty_Ratio su_Ratio_int (fun z => nomatch z),
    f_ExtralinkError := f_ExtralinkError,
    m_ExtralinkError := PySem.W.mg_of X G a_ExtralinkError,
    f_as_ratio := f_as_ratio,
    d_as_ratio := PySem.W.fnOf "as_ratio" "as_ratio" (defArgs s_as_ratio) (defBody s_as_ratio) (defScope s_as_ratio) .none kV_as_ratio dc_as_ratio pm_as_ratio an_as_ratio cd_as_ratio ct_as_ratio,
    F_as_ratio := fun_mk (st := s_as_ratio) l_as_ratio c_as_ratio k_as_ratio,
    b_as_ratio := (fun_mk (st := s_as_ratio) l_as_ratio c_as_ratio k_as_ratio).binds (ps := ["value"]) fun _ _ _ _ _ _ us hl => match us, hl with | [_], _ => rfl,
    m_as_ratio := PySem.W.mg_of X G a_as_ratio,
    f_is_number := f_is_number,
    d_is_number := PySem.W.fnOf "is_number" "is_number" (defArgs s_is_number) (defBody s_is_number) (defScope s_is_number) .none kV_is_number dc_is_number pm_is_number an_is_number cd_is_number ct_is_number,
    F_is_number := fun_mk (st := s_is_number) l_is_number c_is_number k_is_number,
    b_is_number := (fun_mk (st := s_is_number) l_is_number c_is_number k_is_number).binds (ps := ["text"]) fun _ _ _ _ _ _ us hl => match us, hl with | [_], _ => rfl,
    m_is_number := PySem.W.mg_of X G a_is_number,
    f_numeral := f_numeral,
    d_numeral := PySem.W.fnOf "numeral" "numeral" (defArgs s_numeral) (defBody s_numeral) (defScope s_numeral) .none kV_numeral dc_numeral pm_numeral an_numeral cd_numeral ct_numeral,
    F_numeral := fun_mk (st := s_numeral) l_numeral c_numeral k_numeral,
    b_numeral := (fun_mk (st := s_numeral) l_numeral c_numeral k_numeral).binds (ps := ["number"]) fun _ _ _ _ _ _ us hl => match us, hl with | [_], _ => rfl,
    m_numeral := PySem.W.mg_of X G a_numeral,
    f_start := f_start,
    d_start := PySem.W.fnOf "_law_start" "_law_start" (defArgs s_start) (defBody s_start) (defScope s_start) .none kV_start dc_start pm_start an_start cd_start ct_start,
    F_start := fun_mk (st := s_start) l_start c_start k_start,
    b_start := (fun_mk (st := s_start) l_start c_start k_start).binds (ps := ["_law_script"]) fun _ _ _ _ _ _ us hl => match us, hl with | [_], _ => rfl,
    m_start := PySem.W.mg_of X G a_start,
    f_draw := f_draw,
    d_draw := PySem.W.fnOf "_law_draw" "_law_draw" (defArgs s_draw) (defBody s_draw) (defScope s_draw) .none kV_draw dc_draw pm_draw an_draw cd_draw ct_draw,
    F_draw := fun_mk (st := s_draw) l_draw c_draw k_draw,
    b_draw := (fun_mk (st := s_draw) l_draw c_draw k_draw).binds (ps := ["_law_state", "_law_size"]) fun _ _ _ _ _ _ us hl => match us, hl with | [_, _], _ => rfl,
    m_draw := PySem.W.mg_of X G a_draw,
    f_low := f_low,
    d_low := PySem.W.fnOf "_law_low" "_law_low" (defArgs s_low) (defBody s_low) (defScope s_low) .none kV_low dc_low pm_low an_low cd_low ct_low,
    F_low := fun_mk (st := s_low) l_low c_low k_low,
    b_low := (fun_mk (st := s_low) l_low c_low k_low).binds (ps := ["_law_up", "_law_down"]) fun _ _ _ _ _ _ us hl => match us, hl with | [_, _], _ => rfl,
    m_low := PySem.W.mg_of X G a_low,
    f_is := f_is,
    d_is := PySem.W.fnOf "_law_is" "_law_is" (defArgs s_is) (defBody s_is) (defScope s_is) .none kV_is dc_is pm_is an_is cd_is ct_is,
    F_is := fun_mk (st := s_is) l_is c_is k_is,
    b_is := (fun_mk (st := s_is) l_is c_is k_is).binds (ps := ["_law_actual", "_law_pair"]) fun _ _ _ _ _ _ us hl => match us, hl with | [_, _], _ => rfl,
    m_is := PySem.W.mg_of X G a_is,
    f_integer := f_integer,
    d_integer := PySem.W.fnOf "_law_integer" "_law_integer" (defArgs s_integer) (defBody s_integer) (defScope s_integer) .none kV_integer dc_integer pm_integer an_integer cd_integer ct_integer,
    F_integer := fun_mk (st := s_integer) l_integer c_integer k_integer,
    b_integer := (fun_mk (st := s_integer) l_integer c_integer k_integer).binds (ps := ["_law_state"]) fun _ _ _ _ _ _ us hl => match us, hl with | [_], _ => rfl,
    m_integer := PySem.W.mg_of X G a_integer,
    f_refused := f_refused,
    d_refused := PySem.W.fnOf "_law_refused" "_law_refused" (defArgs s_refused) (defBody s_refused) (defScope s_refused) .none kV_refused dc_refused pm_refused an_refused cd_refused ct_refused,
    F_refused := fun_mk (st := s_refused) l_refused c_refused k_refused,
    b_refused := (fun_mk (st := s_refused) l_refused c_refused k_refused).binds (ps := ["_law_upper"]) fun _ _ _ _ _ _ us hl => match us, hl with | [_], _ => rfl,
    m_refused := PySem.W.mg_of X G a_refused,
    f_text := f_text,
    d_text := PySem.W.fnOf "_law_text" "_law_text" (defArgs s_text) (defBody s_text) (defScope s_text) .none kV_text dc_text pm_text an_text cd_text ct_text,
    F_text := fun_mk (st := s_text) l_text c_text k_text,
    b_text := (fun_mk (st := s_text) l_text c_text k_text).binds (ps := ["_law_pair"]) fun _ _ _ _ _ _ us hl => match us, hl with | [_], _ => rfl,
    m_text := PySem.W.mg_of X G a_text,
    f_parts := f_parts,
    d_parts := PySem.W.fnOf "_law_parts" "_law_parts" (defArgs s_parts) (defBody s_parts) (defScope s_parts) .none kV_parts dc_parts pm_parts an_parts cd_parts ct_parts,
    F_parts := fun_mk (st := s_parts) l_parts c_parts k_parts,
    b_parts := (fun_mk (st := s_parts) l_parts c_parts k_parts).binds (ps := ["_law_ratio", "_law_pair"]) fun _ _ _ _ _ _ us hl => match us, hl with | [_, _], _ => rfl,
    m_parts := PySem.W.mg_of X G a_parts,
    f_OutOfRange_init := f_OutOfRange_init,
    d_OutOfRange_init := PySem.W.fnOf "__init__" "OutOfRange.__init__" (defArgs s_OutOfRange_init) (defBody s_OutOfRange_init) (defScope s_OutOfRange_init) .none kV_OutOfRange_init dc_OutOfRange_init pm_OutOfRange_init an_OutOfRange_init cd_OutOfRange_init ct_OutOfRange_init,
    F_OutOfRange_init := fun_mk (st := s_OutOfRange_init) l_OutOfRange_init c_OutOfRange_init k_OutOfRange_init,
    b_OutOfRange_init := (fun_mk (st := s_OutOfRange_init) l_OutOfRange_init c_OutOfRange_init k_OutOfRange_init).binds (ps := ["self", "value"]) fun _ _ _ _ _ _ us hl => match us, hl with | [_, _], _ => rfl,
    a_OutOfRange_init := a_OutOfRange_init,
    i_OutOfRange_init := i_OutOfRange_init,
    f_Ratio_init := f_Ratio_init,
    d_Ratio_init := PySem.W.fnOf "__init__" "Ratio.__init__" (defArgs s_Ratio_init) (defBody s_Ratio_init) (defScope s_Ratio_init) (.ref dT_Ratio_init) kV_Ratio_init dc_Ratio_init pm_Ratio_init an_Ratio_init cd_Ratio_init ct_Ratio_init,
    F_Ratio_init := ⟨⟨_, _, _, _, _, _, _, _, _, _, rfl, l_Ratio_init, c_Ratio_init, .inr ⟨by simp, _, _, [.int 1 dt_Ratio_init], _, rfl, t_Ratio_init, rfl, .cons ⟨_, rfl⟩ .nil⟩, .inl rfl⟩, k_Ratio_init⟩,
    a_Ratio_init := a_Ratio_init,
    i_Ratio_init := i_Ratio_init,
    mk_Ratio := ⟨mk_Ratio, a_Ratio_init, i_Ratio_init, kc_Ratio⟩,
    f_Ratio_read := f_Ratio_read,
    d_Ratio_read := PySem.W.fnOf "read" "Ratio.read" (defArgs s_Ratio_read) (defBody s_Ratio_read) (defScope s_Ratio_read) .none kV_Ratio_read dc_Ratio_read pm_Ratio_read an_Ratio_read cd_Ratio_read ct_Ratio_read,
    F_Ratio_read := fun_mk (st := s_Ratio_read) l_Ratio_read c_Ratio_read k_Ratio_read,
    b_Ratio_read := (fun_mk (st := s_Ratio_read) l_Ratio_read c_Ratio_read k_Ratio_read).binds (ps := ["cls", "text"]) fun _ _ _ _ _ _ us hl => match us, hl with | [_, _], _ => rfl,
    p0_Ratio_read := p_Ratio_read,
    cr_Ratio := ⟨rd_Ratio_read, ga_Ratio_read⟩,
    cm_Ratio_read := ⟨a_Ratio_read, ⟨_, pr_Ratio_read⟩, pf_Ratio_read⟩,
    f_Ratio_top := f_Ratio_top,
    d_Ratio_top := PySem.W.fnOf "top" "Ratio.top" (defArgs s_Ratio_top) (defBody s_Ratio_top) (defScope s_Ratio_top) .none kV_Ratio_top dc_Ratio_top pm_Ratio_top an_Ratio_top cd_Ratio_top ct_Ratio_top,
    F_Ratio_top := fun_mk (st := s_Ratio_top) l_Ratio_top c_Ratio_top k_Ratio_top,
    b_Ratio_top := (fun_mk (st := s_Ratio_top) l_Ratio_top c_Ratio_top k_Ratio_top).binds (ps := ["self"]) fun _ _ _ _ _ _ us hl => match us, hl with | [_], _ => rfl,
    p0_Ratio_top := p_Ratio_top,
    p_Ratio_top := ⟨a_Ratio_top, pg_Ratio_top, pt_Ratio_top, ⟨_, pr_Ratio_top⟩⟩,
    f_Ratio_bottom := f_Ratio_bottom,
    d_Ratio_bottom := PySem.W.fnOf "bottom" "Ratio.bottom" (defArgs s_Ratio_bottom) (defBody s_Ratio_bottom) (defScope s_Ratio_bottom) .none kV_Ratio_bottom dc_Ratio_bottom pm_Ratio_bottom an_Ratio_bottom cd_Ratio_bottom ct_Ratio_bottom,
    F_Ratio_bottom := fun_mk (st := s_Ratio_bottom) l_Ratio_bottom c_Ratio_bottom k_Ratio_bottom,
    b_Ratio_bottom := (fun_mk (st := s_Ratio_bottom) l_Ratio_bottom c_Ratio_bottom k_Ratio_bottom).binds (ps := ["self"]) fun _ _ _ _ _ _ us hl => match us, hl with | [_], _ => rfl,
    p0_Ratio_bottom := p_Ratio_bottom,
    p_Ratio_bottom := ⟨a_Ratio_bottom, pg_Ratio_bottom, pt_Ratio_bottom, ⟨_, pr_Ratio_bottom⟩⟩,
    f_Ratio_sign := f_Ratio_sign,
    d_Ratio_sign := PySem.W.fnOf "sign" "Ratio.sign" (defArgs s_Ratio_sign) (defBody s_Ratio_sign) (defScope s_Ratio_sign) .none kV_Ratio_sign dc_Ratio_sign pm_Ratio_sign an_Ratio_sign cd_Ratio_sign ct_Ratio_sign,
    F_Ratio_sign := fun_mk (st := s_Ratio_sign) l_Ratio_sign c_Ratio_sign k_Ratio_sign,
    b_Ratio_sign := (fun_mk (st := s_Ratio_sign) l_Ratio_sign c_Ratio_sign k_Ratio_sign).binds (ps := ["self"]) fun _ _ _ _ _ _ us hl => match us, hl with | [_], _ => rfl,
    p0_Ratio_sign := p_Ratio_sign,
    p_Ratio_sign := ⟨a_Ratio_sign, pg_Ratio_sign, pt_Ratio_sign, ⟨_, pr_Ratio_sign⟩⟩,
    f_Ratio_eq := f_Ratio_eq,
    d_Ratio_eq := PySem.W.fnOf "__eq__" "Ratio.__eq__" (defArgs s_Ratio_eq) (defBody s_Ratio_eq) (defScope s_Ratio_eq) .none kV_Ratio_eq dc_Ratio_eq pm_Ratio_eq an_Ratio_eq cd_Ratio_eq ct_Ratio_eq,
    F_Ratio_eq := fun_mk (st := s_Ratio_eq) l_Ratio_eq c_Ratio_eq k_Ratio_eq,
    b_Ratio_eq := (fun_mk (st := s_Ratio_eq) l_Ratio_eq c_Ratio_eq k_Ratio_eq).binds (ps := ["self", "other"]) fun _ _ _ _ _ _ us hl => match us, hl with | [_, _], _ => rfl,
    a_Ratio_eq := a_Ratio_eq,
    i_Ratio_eq := i_Ratio_eq,
    f_Ratio_str := f_Ratio_str,
    d_Ratio_str := PySem.W.fnOf "__str__" "Ratio.__str__" (defArgs s_Ratio_str) (defBody s_Ratio_str) (defScope s_Ratio_str) .none kV_Ratio_str dc_Ratio_str pm_Ratio_str an_Ratio_str cd_Ratio_str ct_Ratio_str,
    F_Ratio_str := fun_mk (st := s_Ratio_str) l_Ratio_str c_Ratio_str k_Ratio_str,
    b_Ratio_str := (fun_mk (st := s_Ratio_str) l_Ratio_str c_Ratio_str k_Ratio_str).binds (ps := ["self"]) fun _ _ _ _ _ _ us hl => match us, hl with | [_], _ => rfl,
    a_Ratio_str := a_Ratio_str,
    i_Ratio_str := i_Ratio_str,
    e1_Ratio_init := e1_Ratio_init,
    v1_Ratio_init := ev1_Ratio_init,
    b1_Ratio_init := eb1_Ratio_init,
    e2_Ratio_init := e2_Ratio_init,
    v2_Ratio_init := ev2_Ratio_init,
    b2_Ratio_init := eb2_Ratio_init,
    kb_Ratio_init_bottom_top := kb_Ratio_init,
    kb_Ratio_read_text := fun _ ws _ hl => match ws, hl with | [_], _ => .of_eq rfl,
    ox_OutOfRange := ⟨x_OutOfRange, xs_OutOfRange, xe_OutOfRange, xt_OutOfRange, xk_OutOfRange⟩,
    ix_OutOfRange := a_OutOfRange_init,
    tx_OutOfRange := xf_OutOfRange,
    xf_OutOfRange := ⟨xg_OutOfRange, xh_OutOfRange, xe_OutOfRange, xd_OutOfRange⟩,
    ec_OutOfRange := ⟨xg_OutOfRange, xh_OutOfRange, xe_OutOfRange, xd_OutOfRange, xc_OutOfRange, hn_class, ht_class, xm_OutOfRange⟩,
    no_OutOfRange_value := no_OutOfRange_value,
    es_OutOfRange_OutOfRange := es_OutOfRange_OutOfRange,
    xi_OutOfRange_OutOfRange := xi_OutOfRange,
    xt_OutOfRange_OutOfRange := xt_OutOfRange,
    es_OutOfRange_ExtralinkError := es_OutOfRange_ExtralinkError,
    neq_OutOfRange_ExtralinkError := of_decide_eq_false nq_OutOfRange_ExtralinkError,
    xi_OutOfRange_ExtralinkError := xi_ExtralinkError,
    xt_OutOfRange_ExtralinkError := xt_ExtralinkError,
    kb_as_ratio_0_value := kbinds_all (by decide) fun _ ws _ hl => match ws, hl with | [_], _ => .of_eq rfl,
    t_DIGITS := t_DIGITS,
    c_DIGITS := PySem.W.mg_of X G q_DIGITS,
    t_LONGEST_NUMBER := t_LONGEST_NUMBER,
    c_LONGEST_NUMBER := PySem.W.mg_of X G q_LONGEST_NUMBER,
    t_PIECE := t_PIECE,
    c_PIECE := PySem.W.mg_of X G q_PIECE,
    t_PIECE_DIGITS := t_PIECE_DIGITS,
    c_PIECE_DIGITS := PySem.W.mg_of X G q_PIECE_DIGITS,
    g_gcd := PySem.W.mg_of X G g_gcd,
    n_abs := PySem.W.mg_none_of X G z_abs,
    n_all := PySem.W.mg_none_of X G z_all,
    n_divmod := PySem.W.mg_none_of X G z_divmod,
    n_int := PySem.W.mg_none_of X G z_int,
    n_isinstance := PySem.W.mg_none_of X G z_isinstance,
    n_len := PySem.W.mg_none_of X G z_len,
    n_list := PySem.W.mg_none_of X G z_list,
    n_str := PySem.W.mg_none_of X G z_str }
  exact ⟨PySem.W.fnOf "law" "law" (defArgs s_law) (defBody s_law) (defScope s_law) .none kV_law dc_law pm_law an_law cd_law ct_law, fun s v => .of_eq rfl, fun base _ _ => ok_law T (fun_mk (st := s_law) l_law c_law k_law)⟩
end My
open PySem PySem.W PyProof.Rows
set_option maxRecDepth 100000 in
set_option maxHeartbeats 0 in
theorem PySem.Challenge.cw_extralink_k02_ratio_parts_holds : PySem.Challenge.rw_extralink_k02_ratio_parts.Holds := by
  w_on; o_law; k_head; (case hw => w_witness2)
  k_fill
  refine L2.walk_of (l := PySem.Challenge.rw_extralink_k02_ratio_parts) (n := 63) (k := 7) (x := "_law_script") (CX := fun _ => L2.CX0) (sp := fun w => My.spLaw _) rfl (by decide) rfl ⟨rfl, by decide, by decide⟩ (fun w h Y => PySem.W.kIn_of Y) ?F (fun _ _ a ns hl _ hS => ⟨a, ns, rfl, hS, hl, fun _ => rfl⟩) (fun _ _ _ _ _ h => h)
  case F =>
    intro w mg fa h KX G hmg
    refine' My.all_mk KX G hmg ?a_OutOfRange ?a_Ratio ?pg_Ratio ?hd_Ratio ?po_Ratio ?sa_Ratio ?mk_Ratio ?kc_Ratio ?hc_Ratio ?mo_Ratio ?ic_Ratio ?ty_Ratio ?hn_class ?ht_class ?na_Ratio_top ?na_Ratio_bottom ?su_Ratio_int ?a_ExtralinkError ?a_as_ratio ?l_as_ratio ?c_as_ratio ?k_as_ratio ?a_is_number ?l_is_number ?c_is_number ?k_is_number ?a_numeral ?l_numeral ?c_numeral ?k_numeral ?a_start ?l_start ?c_start ?k_start ?a_draw ?l_draw ?c_draw ?k_draw ?a_low ?l_low ?c_low ?k_low ?a_is ?l_is ?c_is ?k_is ?a_integer ?l_integer ?c_integer ?k_integer ?a_refused ?l_refused ?c_refused ?k_refused ?a_text ?l_text ?c_text ?k_text ?a_parts ?l_parts ?c_parts ?k_parts ?a_OutOfRange_init ?i_OutOfRange_init ?l_OutOfRange_init ?c_OutOfRange_init ?k_OutOfRange_init ?a_Ratio_init ?i_Ratio_init ?l_Ratio_init ?c_Ratio_init ?k_Ratio_init ?t_Ratio_init ?a_Ratio_read ?pr_Ratio_read ?pf_Ratio_read ?rd_Ratio_read ?ga_Ratio_read ?l_Ratio_read ?c_Ratio_read ?k_Ratio_read ?a_Ratio_top ?pg_Ratio_top ?pt_Ratio_top ?pr_Ratio_top ?l_Ratio_top ?c_Ratio_top ?k_Ratio_top ?a_Ratio_bottom ?pg_Ratio_bottom ?pt_Ratio_bottom ?pr_Ratio_bottom ?l_Ratio_bottom ?c_Ratio_bottom ?k_Ratio_bottom ?a_Ratio_sign ?pg_Ratio_sign ?pt_Ratio_sign ?pr_Ratio_sign ?l_Ratio_sign ?c_Ratio_sign ?k_Ratio_sign ?a_Ratio_eq ?i_Ratio_eq ?l_Ratio_eq ?c_Ratio_eq ?k_Ratio_eq ?a_Ratio_str ?i_Ratio_str ?l_Ratio_str ?c_Ratio_str ?k_Ratio_str ?x_OutOfRange ?xs_OutOfRange ?xe_OutOfRange ?xt_OutOfRange ?xk_OutOfRange ?xg_OutOfRange ?xh_OutOfRange ?xd_OutOfRange ?xc_OutOfRange ?xm_OutOfRange ?xi_OutOfRange ?xf_OutOfRange ?no_OutOfRange_value ?es_OutOfRange_OutOfRange ?es_OutOfRange_ExtralinkError ?xi_ExtralinkError ?xt_ExtralinkError ?nq_OutOfRange_ExtralinkError ?q_DIGITS ?q_LONGEST_NUMBER ?q_PIECE ?q_PIECE_DIGITS ?g_gcd ?z_abs ?z_all ?z_divmod ?z_int ?z_isinstance ?z_len ?z_list ?z_str ?a_law ?l_law ?c_law ?k_law
    (case a_OutOfRange => k_is)
    (case a_Ratio => k_is)
    (case pg_Ratio => k_is)
    (case hd_Ratio => k_is)
    (case po_Ratio => k_is)
    (case sa_Ratio => k_is)
    (case mk_Ratio => k_is)
    (case kc_Ratio => k_is)
    (case hc_Ratio => k_is)
    (case mo_Ratio => k_is)
    (case ic_Ratio => k_is)
    (case ty_Ratio => k_is)
    (case hn_class => k_is)
    (case ht_class => k_is)
    (case na_Ratio_top => k_is)
    (case na_Ratio_bottom => k_is)
    (case su_Ratio_int => k_is)
    (case a_ExtralinkError => k_is)
    (case a_as_ratio => k_is)
    (case l_as_ratio => k_is)
    (case c_as_ratio => k_is)
    (case k_as_ratio => k_is)
    (case a_is_number => k_is)
    (case l_is_number => k_is)
    (case c_is_number => k_is)
    (case k_is_number => k_is)
    (case a_numeral => k_is)
    (case l_numeral => k_is)
    (case c_numeral => k_is)
    (case k_numeral => k_is)
    (case a_start => k_is)
    (case l_start => k_is)
    (case c_start => k_is)
    (case k_start => k_is)
    (case a_draw => k_is)
    (case l_draw => k_is)
    (case c_draw => k_is)
    (case k_draw => k_is)
    (case a_low => k_is)
    (case l_low => k_is)
    (case c_low => k_is)
    (case k_low => k_is)
    (case a_is => k_is)
    (case l_is => k_is)
    (case c_is => k_is)
    (case k_is => k_is)
    (case a_integer => k_is)
    (case l_integer => k_is)
    (case c_integer => k_is)
    (case k_integer => k_is)
    (case a_refused => k_is)
    (case l_refused => k_is)
    (case c_refused => k_is)
    (case k_refused => k_is)
    (case a_text => k_is)
    (case l_text => k_is)
    (case c_text => k_is)
    (case k_text => k_is)
    (case a_parts => k_is)
    (case l_parts => k_is)
    (case c_parts => k_is)
    (case k_parts => k_is)
    (case a_OutOfRange_init => k_is)
    (case i_OutOfRange_init => k_is)
    (case l_OutOfRange_init => k_is)
    (case c_OutOfRange_init => k_is)
    (case k_OutOfRange_init => k_is)
    (case a_Ratio_init => k_is)
    (case i_Ratio_init => k_is)
    (case l_Ratio_init => k_is)
    (case c_Ratio_init => k_is)
    (case k_Ratio_init => k_is)
    (case t_Ratio_init => k_is)
    (case a_Ratio_read => k_is)
    (case pr_Ratio_read => k_is)
    (case pf_Ratio_read => k_is)
    (case rd_Ratio_read => k_is)
    (case ga_Ratio_read => k_is)
    (case l_Ratio_read => k_is)
    (case c_Ratio_read => k_is)
    (case k_Ratio_read => k_is)
    (case a_Ratio_top => k_is)
    (case pg_Ratio_top => k_is)
    (case pt_Ratio_top => k_is)
    (case pr_Ratio_top => k_is)
    (case l_Ratio_top => k_is)
    (case c_Ratio_top => k_is)
    (case k_Ratio_top => k_is)
    (case a_Ratio_bottom => k_is)
    (case pg_Ratio_bottom => k_is)
    (case pt_Ratio_bottom => k_is)
    (case pr_Ratio_bottom => k_is)
    (case l_Ratio_bottom => k_is)
    (case c_Ratio_bottom => k_is)
    (case k_Ratio_bottom => k_is)
    (case a_Ratio_sign => k_is)
    (case pg_Ratio_sign => k_is)
    (case pt_Ratio_sign => k_is)
    (case pr_Ratio_sign => k_is)
    (case l_Ratio_sign => k_is)
    (case c_Ratio_sign => k_is)
    (case k_Ratio_sign => k_is)
    (case a_Ratio_eq => k_is)
    (case i_Ratio_eq => k_is)
    (case l_Ratio_eq => k_is)
    (case c_Ratio_eq => k_is)
    (case k_Ratio_eq => k_is)
    (case a_Ratio_str => k_is)
    (case i_Ratio_str => k_is)
    (case l_Ratio_str => k_is)
    (case c_Ratio_str => k_is)
    (case k_Ratio_str => k_is)
    (case x_OutOfRange => exact ⟨_, _, _, _, _, _, _, _, _, _, _, _, _, _, _, by k_is, by decide +kernel⟩)
    (case xs_OutOfRange => k_is)
    (case xe_OutOfRange => k_is)
    (case xt_OutOfRange => k_is)
    (case xk_OutOfRange => k_is)
    (case xg_OutOfRange => k_is)
    (case xh_OutOfRange => k_is)
    (case xd_OutOfRange => k_is)
    (case xc_OutOfRange => k_is)
    (case xm_OutOfRange => k_is)
    (case xi_OutOfRange => k_is)
    (case xf_OutOfRange => k_is)
    (case no_OutOfRange_value => k_is)
    (case es_OutOfRange_OutOfRange => k_is)
    (case es_OutOfRange_ExtralinkError => k_is)
    (case xi_ExtralinkError => k_is)
    (case xt_ExtralinkError => k_is)
    (case nq_OutOfRange_ExtralinkError => decide)
    (case q_DIGITS => k_is)
    (case q_LONGEST_NUMBER => k_is)
    (case q_PIECE => k_is)
    (case q_PIECE_DIGITS => k_is)
    (case g_gcd => k_is)
    (case z_abs => k_is)
    (case z_all => k_is)
    (case z_divmod => k_is)
    (case z_int => k_is)
    (case z_isinstance => k_is)
    (case z_len => k_is)
    (case z_list => k_is)
    (case z_str => k_is)
    (case a_law => k_is)
    (case l_law => k_is)
    (case c_law => k_is)
    (case k_law => k_is)

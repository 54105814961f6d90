import PyProof.Rows.All
import Wide.All
import OpenK.AllK
import Wide.FinOn
import HandS.Base
import HandS.Call
import HandS.List
import HandS.Comp
import HandS.Ends
import HandS.Dict
import HandS.Iter
import HandS.Text
import HandS.Words
import HandS.WordsList
import HandS.WordsDict
import HandS.Wide
import HandS.IsInst
import HandS.Codes
import HandS.Property
import HandS.ClsMeth
import HandS.Defaults
import HandS.MakeKw
import HandS.CallLocal
import HandS.CallSlots
import HandS.Exc
import HandS.ExcInit
import HandS.ExcField
import HandS.ExcIs
import HandS.ExcOwn
import HandS.TryOnly
import HandS.WordsExc
import HandS.Gcd
import HandS.FStr
import HandS.StrMore
import HandS.WideBits
import HandS.Style
import HandS.OwnEq
import OpenK.KMeth
import KE.KOpsOwn
import HandS.TupAny
import PySem.Challenge.RW_extralink_k05_least_and_greatest
set_option Elab.async false
set_option linter.all false
set_option maxRecDepth 100000
/-! My own rules beside the hand layer's: an item of a list read for a store in place, a text backwards, a call by keywords alone; what is said of lists of ints as data. -/
namespace My
open PySem PySem.Spec PyProof.Rows L2

/-! ### rules -/
section
variable {X : Cx}
def rGetL (K : PySem.W.Frag) : V → V → Hp → VK → Prop := fun x y H Q => ∃ p xs i v, x = .ref p ∧ y = .int i ∧ SqL K H p xs ∧ 0 ≤ i ∧ atI xs i = some v ∧ Q v H
theorem get_list : PGet X (rGetL X.K) := by
  intro pins s σ H o i ov iv Q I ro ri h
  obtain ⟨p, xs, k, z, rfl, rfl, hq, h0, he, q⟩ := h
  cases ro
  obtain ⟨t, rfl⟩ := ri
  obtain ⟨its, r, pl, hz⟩ := I.list hq
  obtain ⟨j, h1, h2, h3, h4, h5⟩ := atI_get he
  obtain ⟨w, ew, rw'⟩ := r.get h2
  have hl := r.length
  have hn := line63
  have hj : k.toNat = j := by
    rw [seqIndex_of h0 h5] at h1
    exact Option.some.inj h1
  exact wpAny_getItem_list pl.isList h0 (by omega) (by rw [hj]; simpa using ew) ⟨z, H, I, rw', q⟩

def revS (z : Str) : Str := ⟨z.cps.reverse⟩
def tRevS (te : TE) : TE := fun σ H Q => te σ H fun x H1 => ∃ z, x = .str z ∧ z.length ≤ sizeLine ∧ Q (.str (revS z)) H1
theorem range_back (n : Nat) : sliceRange ((n : Int) - 1) (-1) (-1) = (List.range n).map fun k => n - 1 - k := by
  unfold sliceRange
  have e : (if (-1 : Int) > 0 then (if ((n : Int) - 1) < -1 then (-1 - ((n : Int) - 1) + -1 - 1) / -1 else 0) else (if ((n : Int) - 1) > -1 then (((n : Int) - 1) - -1 - -1 - 1) / (- -1) else 0)).toNat = n := by
    rw [if_neg (by decide)]
    by_cases h : ((n : Int) - 1) > -1
    · rw [if_pos h, show (- -1 : Int) = 1 by decide, Int.ediv_one]
      omega
    · rw [if_neg h]
      omega
  show List.map (fun (k : Nat) => (((n : Int) - 1) + (-1) * (k : Int)).toNat) (List.range (Int.toNat (if (-1 : Int) > 0 then (if ((n : Int) - 1) < -1 then (-1 - ((n : Int) - 1) + -1 - 1) / -1 else 0) else (if ((n : Int) - 1) > -1 then (((n : Int) - 1) - -1 - -1 - 1) / (- -1) else 0)))) = _
  rw [e]
  refine List.map_congr_left fun k hk => ?_
  have := List.mem_range.mp hk
  omega
theorem filterMap_back (z : Array Nat) : (((List.range z.size).map fun k => z.size - 1 - k).filterMap (z[·]?)) = z.toList.reverse := by
  refine List.ext_getElem? fun i => ?_
  have e : (((List.range z.size).map fun k => z.size - 1 - k).filterMap (z[·]?)) = (List.range z.size).map fun k => z.getD (z.size - 1 - k) 0 := by
    rw [List.filterMap_map]
    have : ∀ l : List Nat, (∀ k ∈ l, k < z.size) → l.filterMap ((fun x => z[x]?) ∘ fun k => z.size - 1 - k) = l.map fun k => z.getD (z.size - 1 - k) 0 := by
      intro l
      induction l with
      | nil => intro _; rfl
      | cons a r ih =>
        intro h
        have ha := h a List.mem_cons_self
        have hb : z.size - 1 - a < z.size := by omega
        rw [List.filterMap_cons]
        have e1 : ((fun x => z[x]?) ∘ fun k => z.size - 1 - k) a = some (z.getD (z.size - 1 - a) 0) := by
          show z[z.size - 1 - a]? = _
          rw [Array.getElem?_eq_getElem hb]
          simp [Array.getD, hb]
        rw [e1, List.map_cons, ih fun k hk => h k (List.mem_cons_of_mem _ hk)]
    exact this _ fun k hk => List.mem_range.mp hk
  rw [e, List.getElem?_map]
  by_cases hi : i < z.size
  · rw [List.getElem?_range hi, List.getElem?_reverse (by simpa using hi)]
    have hb : z.size - 1 - i < z.size := by omega
    simp [Array.getD, hb]
  · rw [List.getElem?_eq_none (by simpa using hi), List.getElem?_eq_none (by simpa using hi)]
    rfl
theorem pe_revS {e : Expr} {te : TE} {k : Nat} {p1 p2 p3 pos : Pos} (he : PE X e te) : PE X (.Subscript e (.Slice none none (some (.UnaryOp .USub (.Constant (.int 1) k p1) p2)) p3) pos) (tRevS te) := by
  refine ⟨fun pins s σ H Q I h => ?_⟩
  refine Subscript_ (thn (he.run pins s σ H _ I h) fun v s1 ⟨x, H1, I1, r1, q1⟩ => ?_)
  obtain ⟨z, ex, hz, q⟩ := q1
  subst ex
  obtain ⟨tz, rfl⟩ := r1
  have hst : PO X (some (.UnaryOp .USub (.Constant (.int 1) k p1) p2)) (tPart (tUn (rU fun i => .int (-i)) (tC (.int 1)))) := po_some (pe_un un_neg pe_int)
  refine wpAny_Slice (thn (po_none.run pins s1 σ H1 (fun o H2 => o = none ∧ H2 = H1) I1 ⟨rfl, rfl⟩) fun vl s2 ⟨l, H2, I2, pl, el, e2⟩ => ?_)
  subst el e2
  refine thn (po_none.run pins s2 σ H2 (fun o H3 => o = none ∧ H3 = H2) I2 ⟨rfl, rfl⟩) fun vu s3 ⟨u, H3, I3, pu, eu, e3⟩ => ?_
  subst eu e3
  refine thn (hst.run pins s3 σ H3 (fun o H4 => o = some (-1) ∧ H4 = H3) I3 ⟨1, rfl, -1, rfl, rfl, rfl⟩) fun vs s4 ⟨o, H4, I4, ps, eo, e4⟩ => ?_
  subst eo e4
  have I5 : Inv X pins σ H4 { s4 with heap := s4.heap.push { cls := .type "slice", data := .fields #[vl, vu, vs] } } := I4.kept (t' := s4.toks) fun b ob q => Heap.get?_push_of_some _ q
  obtain ⟨l, rfl, el⟩ := IsPart.raw pl
  obtain ⟨u, rfl, eu⟩ := IsPart.raw pu
  obtain ⟨st, rfl, est⟩ := IsPart.raw ps
  cases l with
  | some _ => cases el
  | none =>
  cases u with
  | some _ => cases eu
  | none =>
  cases st with
  | none => cases est
  | some st =>
  obtain ⟨k1, tk⟩ := st
  have ek : k1 = -1 := Option.some.inj est
  subst ek
  show wpAny (model X.prog X.w) X.A (subscriptTail e (.Slice none none (some (.UnaryOp .USub (.Constant (.int 1) k p1) p2)) p3) (.str z tz) (.ref s4.heap.objs.size)) (EP X pins σ Q) X.xe { s4 with heap := s4.heap.push { cls := .type "slice", data := .fields #[.none, .none, .int (-1) tk] } }
  refine tail_any (ops := [.ref s4.heap.objs.size, .str z tz]) (typeIs_str _ _ _) F.slot_str_getitem.lookup ?_ (by with_unfolding_all rfl)
  refine wpAny_getItem_str_slice (l := none) (u := none) (st := some (-1, tk)) ⟨_, Heap.get?_push_size _ rfl, rfl, rfl⟩ rfl ?_
  have hp : slicePicked z none none (some (-1, tk)) = (List.range z.cps.size).map fun k => z.cps.size - 1 - k := by
    show Builtin.Str.strSliceIndices none none (-1) z.length = _
    unfold Builtin.Str.strSliceIndices
    exact range_back z.length
  have hr : (⟨((slicePicked z none none (some (-1, tk))).filterMap (z.cps[·]?)).toArray⟩ : Str) = revS z := by
    rw [hp, filterMap_back]
    unfold revS
    congr 1
    apply Array.ext'
    simp
  show Made.post (if ((-1 : Int) == 1 && (slicePicked z none none (some (-1, tk))).length == z.length) = true then Made.val (.str z tz) else Made.str ⟨((slicePicked z none none (some (-1, tk))).filterMap (z.cps[·]?)).toArray⟩) (EP X pins σ Q) _
  rw [if_neg (by rw [show ((-1 : Int) == 1) = false by decide, Bool.false_and]; exact Bool.false_ne_true), hr]
  refine ⟨?_, .str _, H4, I5.tok _, ⟨_, rfl⟩, q⟩
  show (revS z).cps.size ≤ sizeLine
  unfold revS
  rw [Array.size_reverse]
  exact hz

section
variable {CX : CXT} {k : Nat} {f : Addr} {fd : FuncData} {ps ks : List Str} {sp : Sp} {E : XK} {x : Str} {p pos : Pos} {kws : List Keyword} {tk : TA} {g : List Value → List Value → List Value} {gV : List V → List V → List V}
def tCallK0 (sp : Sp) (gV : List V → List V → List V) (E : XK) (tk : TA) : TE := fun σ H Q => tk σ H fun zs H2 => sp (gV [] zs) H2 Q E
/-- f(k = v, ..), nothing by place -/
theorem pe_callK0 (F : FnOk X.prog X.w X.K X.mg X.base CX k f fd ps sp) (hr : Room k X.A) (hg : Gl X x) (hm : X.mg x = some (.ref f)) (hk : PySem.W.keepIn X.K (.ref f) = true) (hb : KBinds X.K fd ps ks g gV) (hx : Passes CX X E)
    (hkw : PK X kws tk) (hall : (backToKw pos (keywordEach kws X.env)).all (·.1.isSome) = true := by rfl) (hks : (backToKw pos (keywordEach kws X.env)).filterMap (·.1) = ks := by rfl)
    (hdb : (x == ("__debug__" : Str)) = false := by decide)
    (hpl : ((backTo pos (starEach [] X.env)).any (·.1) || (backToKw pos (keywordEach kws X.env)).any (·.1.isNone)) = false := by rfl) :
    PE X (.Call (.Name x p) [] kws pos) (tCallK0 sp gV E tk) := by
  refine ⟨fun pins s σ H Q I h => ?_⟩
  refine wpAny_Call_Name_kw (ld_glob I hg hm ?_ hdb)
  refine PySem.W.callWith_KW0 (h₀ := X.base) I.ok.mod.kin hk hall (thn (hkw.run pos pins s σ H _ I h) fun ws s2 ⟨zs, H2, I2, rz, q2⟩ => ⟨I2.kIn, ?_⟩) hpl
  rw [hks]
  exact run_fnk (us := []) (vs := []) F hr hb hx I2 .nil rz q2
end
end

/-- all parameters by keyword, in their order -/
def kAll {α : Type} : List α → List α → List α
  | [], zs => zs
  | _ :: _, _ => []
theorem kbinds_all {K : PySem.W.Frag} {fd : FuncData} {ps ks : List Str} (h0 : 0 < ps.length) (h : ∀ (s : Shared) (ws : List Value), K.In s.heap → ws.length = ps.length → BindsTo s fd ⟨[], ks.zip ws⟩ (ps.zip ws)) : KBinds K fd ps ks kAll kAll where
  to := fun s us ws hK hl => by
    cases us with
    | nil => exact h s ws hK hl
    | cons u r =>
      have z : (0 : Nat) = ps.length := hl
      omega
  rel := fun {vs us zs ws} r rz => by
    cases r with
    | nil => exact rz
    | cons _ _ => exact .nil

/-! ### places -/
theorem at0 {α : Type} {x : α} {xs : List α} : atI (x :: xs) 0 = some x := atI_nat (j := 0) rfl
theorem ix_nat {n j : Nat} (h : j < n) : ixN n (j : Int) = some j := by
  unfold ixN
  rw [if_pos (by omega), if_pos (by omega), Int.toNat_natCast]
theorem ix0 {n : Nat} (h : 0 < n) : ixN n 0 = some 0 := ix_nat h

/-! ### walks over a text -/
theorem lc_str {x : Str} {g : TG} {tt : TT} {te : TE} {vs : List Nat} {σ : L2.St} {H1 : Hp} {D : Addr} {Qd : Hp → Prop} (Pv : Nat → Hp → Prop) (h0 : Pv 0 (upd H1 D (.lst [])))
    (hs : ∀ i c H, x.cps.toList[i]? = some c → Pv i H → g (.str ⟨#[c]⟩) (wipe σ vs) H fun σ2 H2 => wipe σ2 vs = wipe σ vs ∧ tt σ2 H2 fun b H3 =>
      if b = true then te σ2 H3 fun y H4 => ∃ acc, H4 D = some (.lst acc) ∧ acc.length < sizeLine ∧ Pv (i + 1) (upd H4 D (.lst (acc ++ [y]))) else Pv (i + 1) H3) (hd : ∀ H, Pv x.cps.size H → Qd H) :
    ∃ W : Nat → Nat → Hp → Prop, (∃ m, W 0 m (upd H1 D (.lst []))) ∧ ∀ i m H, W i m H →
      ((Its x).stop i H ∧ Qd H) ∨ ((Its x).go i H ∧ ∃ Nx : Hp → Prop, (∀ H', Nx H' → ∃ m', m' < m ∧ W (i + 1) m' H') ∧ ∀ y H', (Its x).yld i H y H' → g y (wipe σ vs) H' fun σ2 H2 => wipe σ2 vs = wipe σ vs ∧ tt σ2 H2 fun b H3 =>
        if b = true then te σ2 H3 fun y H4 => ∃ acc, H4 D = some (.lst acc) ∧ acc.length < sizeLine ∧ Nx (upd H4 D (.lst (acc ++ [y]))) else Nx H3) := by
  refine ⟨fun i m H => m = x.cps.size - i ∧ i ≤ x.cps.size ∧ Pv i H, ⟨_, rfl, Nat.zero_le _, h0⟩, ?_⟩
  rintro i m H ⟨rfl, hi, p⟩
  by_cases hlt : i < x.cps.size
  · refine .inr ⟨hlt, Pv (i + 1), fun H' p' => ⟨x.cps.size - (i + 1), by omega, rfl, hlt, p'⟩, fun y H' q => ?_⟩
    obtain ⟨e, c, hc, ey⟩ := q
    subst e
    subst ey
    exact hs i c _ (by rw [Array.getElem?_toList]; exact hc) p
  · have e : i = x.cps.size := by omega
    subst e
    exact .inl ⟨Nat.le_refl _, hd H p⟩

/-! ### lists of ints, of texts as data -/
theorem dp_ints {K : PySem.W.Frag} {H : Hp} : ∀ ns : List Int, DpAll K H (ns.map V.int) (ns.map PyData.int)
  | [] => .nil
  | n :: r => .cons (.int n) (dp_ints r)
theorem dp_strs {K : PySem.W.Frag} {H : Hp} : ∀ ns : List Str, DpAll K H (ns.map V.str) (ns.map PyData.str)
  | [] => .nil
  | n :: r => .cons (.str n) (dp_strs r)
theorem shaped_ints (ns : List Int) : SeqAt.shaped (.list (ns.map PyData.int)) = true := PySem.W.ke_shaped_ints ns
theorem eqv_nil : PyData.eqv (.list []) (.list []) = true := by simp [PyData.eqv, PyData.eqvAll]
theorem eqv_cons {a : PyData} {r : List PyData} : PyData.eqv (.list (a :: r)) (.list []) = false := by simp [PyData.eqv, PyData.eqvAll]
theorem same_upd {H : Hp} {p : Addr} {o : HO} (h : H p = none) : Same H (upd H p o) := fun b x e => by
  rw [upd_ne (ne_of_none e h)]
  exact e
/-- what G doesn't know may change -/
theorem same_mut {G H : Hp} {p : Addr} {o : HO} (e : Same G H) (h : G p = none) : Same G (upd H p o) := fun b x q => by
  rw [upd_ne (ne_of_none q h)]
  exact e b x q
end My

/-! My own rules about instances of own classes: texts of them, making them by names and in a try, operators; errors with a dict in an except suite. -/
namespace My
open PySem PySem.Spec PyProof.Rows L2

section
variable {X : Cx}
/-! ### floor division by any divisor that is not 0 -/
def CDivZ (_ j : Int) : Prop := j ≠ 0 ∧ j.natAbs.log2 < 9000
theorem op_fdivZ : OpR X (binaryOp .FloorDiv) (rI CDivZ fun i j => .int (i.fdiv j)) := opI fun _ _ _ _ _ _ _ hc q => floordiv_int hc.1 q (.inl (PyProof.noPylong_of_log2 hc.2))
theorem cdivZ {i j : Int} (h : j ≠ 0) (hb : j.natAbs < 2 ^ 8000) : CDivZ i j := ⟨h, Nat.lt_of_lt_of_le (PySem.Flt.log2_lt_of (by decide) hb) (by decide)⟩

/-! ### str(o), o of an own class with __str__ -/
def rStrO (C : Addr) (sp : Sp) : List V → Hp → VK → Prop := fun xs H Q => ∃ a dx fs, xs = [.ref a] ∧ H a = some (.ins C dx fs) ∧ sp [.ref a] H (fun v H' => ∃ z, v = .str z ∧ Q (.str z) H') E0
theorem call_strO {CX : CXT} {k : Nat} {C f : Addr} {fd : FuncData} {ps : List Str} {sp : Sp} (hs : PySem.W.findIn X.K (.ref C) "__str__" = some (some (.ref f))) (hf : PySem.W.isFn X.K (.ref f) = true)
    (F : FnOk X.prog X.w X.K X.mg X.base CX k f fd ps sp) (hr : Room (k + 2) X.A) (hb : Binds X.K fd ps []) (hx : Passes CX X.nox E0) : CallR X (.type "str") (rStrO C sp) := by
  intro pins s σ H xs us Q I r h
  obtain ⟨a, dx, fs, rfl, ea, q⟩ := h
  obtain ⟨u, rfl, ru⟩ := vals1 r
  obtain rfl : u = Value.ref a := ru
  obtain ⟨mA, O, _, _, _, _⟩ := ins_get I.hok ea
  obtain ⟨od, J, _⟩ := O.look
  have hl : ([Value.ref a] ++ []).length = ps.length := by rw [← F.len _ _ _ _ q]; rfl
  refine PySem.W.kso_call hr.in1.in1.units0 I.kIn J hs hf (wpAny_call ?_)
  refine codeAny_mono (F.run X.A.in1.in1 X.stack s H ⟨[.ref a], []⟩ [.ref a] [.ref a] _ E0 hr.in1.in1 I.env0.in1.in1 (hb _ [.ref a] I.kIn hl) (.cons rfl .nil) q) fun r s' hq => ?_
  cases r with
  | error er => exact False.elim (hx pins σ H s er s' (I.wish _) hq)
  | ok fl =>
    cases fl with
    | ret u =>
      obtain ⟨v, H', I3, rv, z, ez, q3⟩ := I.after hq
      subst ez
      obtain ⟨t, rfl⟩ := rv
      exact ⟨.str z, H', I3, ⟨t, rfl⟩, q3⟩
    | next => exact False.elim hq
    | brk => exact False.elim hq
    | cont => exact False.elim hq

/-! ### C(k = v, ..), nothing by place -/
section
variable {CX : CXT} {k : Nat} {f C : Addr} {fd : FuncData} {ps ks : List Str} {sp : Sp} {E : XK} {x : Str} {p pos : Pos} {e : Expr} {es : List Expr} {kws : List Keyword} {t tk : TA} {g : List Value → List Value → List Value} {gV : List V → List V → List V}
theorem pe_makeK0 (M : Mk X.K C f) (F : FnOk X.prog X.w X.K X.mg X.base CX k f fd ps sp) (hr : Room (k + 1) X.A) (hg : Gl X x) (hm : X.mg x = some (.ref C)) (hb : KBn X.K fd ps (0 + 1) ks g gV) (hx : Passes CX X E)
    (hkw : PK X kws tk) (hall : (backToKw pos (keywordEach kws X.env)).all (·.1.isSome) = true := by rfl) (hks : (backToKw pos (keywordEach kws X.env)).filterMap (·.1) = ks := by rfl)
    (hdb : (x == ("__debug__" : Str)) = false := by decide)
    (hpl : ((backTo pos (starEach [] X.env)).any (·.1) || (backToKw pos (keywordEach kws X.env)).any (·.1.isNone)) = false := by rfl) :
    PE X (.Call (.Name x p) [] kws pos) (tMakeN C 0 ks.length sp gV E tNil tk) := by
  refine ⟨fun pins s σ H Q I h => ?_⟩
  refine wpAny_Call_Name_kw (ld_glob I hg hm ?_ hdb)
  refine PySem.W.callWith_KW0 (h₀ := X.base) I.ok.mod.kin M.kp hall (thn (hkw.run pos pins s σ H _ I h) fun ws s2 ⟨zs, H2, I2, rz, l1, l2, q2⟩ => ⟨I2.kIn, ?_⟩) hpl
  rw [hks]
  exact run_makeN M F hr hb hx I2 .nil rz rfl l2 q2

/-! ### cls(e, ..), the class under a name of the frame -/
def tMakeL (C : Addr) (i : Nat) (sp : Sp) (dvs : List V) (E : XK) (t : TA) : TE := fun σ H Q => σ[i]? = some (some (.ref C)) ∧ tMake C sp dvs E t σ H Q
theorem pe_makeL {i : Nat} {dvs : List V} {ds : List Value} (M : Mk X.K C f) (F : FnOk X.prog X.w X.K X.mg X.base CX k f fd ps sp) (hr : Room (k + 1) X.A) (hN : X.N[i]? = some x) (hv : Vis X.env.scope x) (hb : Binds X.K fd ps ds) (hd : Vals dvs ds) (hx : Passes CX X E)
    (ha : PA X (e :: es) t) (hd1 : (x == ("__debug__" : Str)) = false := by decide) (hcd : (x == ("__classdict__" : Str)) = false := by decide)
    (he : starEach (e :: es) X.env = (false, eval e X.env) :: starEach es X.env := by rfl) (hpl : (backTo pos (starEach es X.env)).any (·.1) = false := by rfl) :
    PE X (.Call (.Name x p) (e :: es) [] pos) (tMakeL C i sp dvs E t) := by
  refine ⟨fun pins s σ H Q I h => ?_⟩
  obtain ⟨hs, h⟩ := h
  refine wpAny_Call_Name_kw (thn ((pe_var (pos := p) hN hv hd1 hcd).run pins s σ H (fun v H1 => v = .ref C ∧ H1 = H) I ⟨.ref C, hs, rfl, rfl⟩) fun u s1 ⟨v, H1, I1, r1, q1⟩ => ?_)
  obtain ⟨rfl, rfl⟩ := q1
  cases r1
  refine PySem.W.callWith_K (h₀ := X.base) I.ok.mod.kin M.kp (thn (ha.run pos pins s1 σ _ _ I1 h) fun us s2 ⟨vs, H2, I2, r, q⟩ => ⟨I2.kIn, ?_⟩) he hpl
  exact run_make M F hr hb hd hx I2 r q

/-! ### C(e, ..) where what is raised is wished for at the caller's slots -/
def tMakeS (C : Addr) (sp : Sp) (dvs : List V) (E : L2.St → XK) (t : TA) : TE := fun σ H Q => tMake C sp dvs (E σ) t σ H Q
theorem run_makeS {pins : List (Addr × Obj)} {σ : L2.St} {H : Hp} {s : Shared} {Q : VK} {us : List Value} {vs : List V} {dvs : List V} {ds : List Value} (M : Mk X.K C f) (F : FnOk X.prog X.w X.K X.mg X.base CX k f fd ps sp) (hr : Room (k + 1) X.A) (hb : Binds X.K fd ps ds) (hd : Vals dvs ds)
    (hx : PassesAt CX X σ E) (I : Inv X pins σ H s) (r : Vals vs us)
    (h : ∀ x dx, H x = none → H dx = none → dx ≠ x → sp (.ref x :: (vs ++ dvs)) (upd (upd H dx (.own x)) x (.ins C dx [])) (fun v H2 => v = .non ∧ Q (.ref x) H2) E) :
    wpAny (model X.prog X.w) X.A (call (.ref C) us) (EP X pins σ Q) X.xe s := by
  have hq := h (s.heap.objs.size + 1) s.heap.objs.size (I.hok.fresh (Nat.le_succ _)) (I.hok.fresh (Nat.le_refl _)) (Nat.ne_of_lt (Nat.lt_succ_self _))
  have I2 := Inv.made (C := C) I
  have r2 : Vals (V.ref (s.heap.objs.size + 1) :: (vs ++ dvs)) (Value.ref (s.heap.objs.size + 1) :: (us ++ ds)) := .cons rfl (r.append hd)
  have hl : (Value.ref (s.heap.objs.size + 1) :: us ++ ds).length = ps.length := by
    have e := r2.length
    rw [F.len _ _ _ _ hq] at e
    exact e.symm
  refine wpAny_call (make_map (f := f) I.kIn M.makes M.init (beq_iff_eq.mp M.fn) (codeAny_mono (F.run _ X.stack _ _ ⟨Value.ref (s.heap.objs.size + 1) :: us, []⟩ (Value.ref (s.heap.objs.size + 1) :: (us ++ ds)) _ _ E (hr.make C us [])
    (I2.env0.make C us []) (hb _ (Value.ref (s.heap.objs.size + 1) :: us) I2.kIn hl) r2 hq) fun r s' hq' => ?_))
  cases r with
  | error e => exact hx pins _ _ e s' I2 hq'
  | ok fl =>
    cases fl with
    | ret u =>
      obtain ⟨v, H', I3, rv, ev, q3⟩ := I2.after hq'
      subst ev
      exact ⟨rv, ⟨V.ref (s.heap.objs.size + 1), H', I3, rfl, q3⟩⟩
    | next => exact False.elim hq'
    | brk => exact False.elim hq'
    | cont => exact False.elim hq'
theorem pe_makeS {E : L2.St → XK} {dvs : List V} {ds : List Value} (M : Mk X.K C f) (F : FnOk X.prog X.w X.K X.mg X.base CX k f fd ps sp) (hr : Room (k + 1) X.A) (hg : Gl X x) (hm : X.mg x = some (.ref C)) (hb : Binds X.K fd ps ds) (hd : Vals dvs ds) (hx : ∀ σ, PassesAt CX X σ (E σ))
    (ha : PA X (e :: es) t) (hdb : (x == ("__debug__" : Str)) = false := by decide) (he : starEach (e :: es) X.env = (false, eval e X.env) :: starEach es X.env := by rfl) (hpl : (backTo pos (starEach es X.env)).any (·.1) = false := by rfl) :
    PE X (.Call (.Name x p) (e :: es) [] pos) (tMakeS C sp dvs E t) := by
  refine ⟨fun pins s σ H Q I h => ?_⟩
  refine wpAny_Call_Name_kw (ld_glob I hg hm ?_ hdb)
  refine PySem.W.callWith_K (h₀ := X.base) I.ok.mod.kin M.kp (thn (ha.run pos pins s σ H _ I h) fun us s1 ⟨vs, H1, I1, r, q⟩ => ⟨I1.kIn, ?_⟩) he hpl
  exact run_makeS M F hr hb hd (hx σ) I1 r q
end

/-! ### C.m(k = v, ..), m a classmethod -/
section
variable {CX : CXT} {k : Nat} {C q0 g : Addr} {mc : Value} {fd : FuncData} {ps ks : List Str} {sp : Sp} {E : XK} {o : Expr} {m : Str} {pos apos : Pos} {kws : List Keyword} {ta : TE} {tk : TA} {pl : Sem Bool}
def tCMethK (C : Addr) (n : Nat) (sp : Sp) (E : XK) (ta : TE) (tk : TA) : TE := fun σ H Q => ta σ H fun x H1 => x = .ref C ∧ tk σ H1 fun zs H2 => zs.length = n ∧ sp (.ref C :: zs) H2 Q E
theorem pe_cmethK0 (he : PE X o ta) (r : ClX.CRead X.K C mc) (c : ClX.CMet X.K C mc m q0 g) (F : FnOk X.prog X.w X.K X.mg X.base CX k g fd ps sp) (hr : Room k X.A) (hx : Passes CX X E) (hkw : PK X kws tk)
    (hb : ∀ (s : Shared) (ws : List Value), X.K.In s.heap → ws.length = ks.length → BindsTo s fd ⟨Value.ref C :: [], ks.zip ws⟩ (ps.zip (Value.ref C :: ws)))
    (hall : (backToKw pos (keywordEach kws X.env)).all (·.1.isSome) = true := by rfl) (hks : (backToKw pos (keywordEach kws X.env)).filterMap (·.1) = ks := by rfl)
    (hpl : ((backTo pos (starEach [] X.env)).any (·.1) || (backToKw pos (keywordEach kws X.env)).any (·.1.isNone)) = false := by rfl)
    (ht : eval (.Call (.Attribute o m apos) [] kws pos) X.env = (do
      let ov ← eval o X.env
      standAt apos.atName
      let (f, first) ← holding [ov] (getMethod ov m pl)
      callWith pos f first (backTo pos (starEach [] X.env)) (backToKw pos (keywordEach kws X.env))) := by rfl) :
    PE X (.Call (.Attribute o m apos) [] kws pos) (tCMethK C ks.length sp E ta tk) := by
  refine ⟨fun pins s σ H Q I h => ?_⟩
  refine PySem.W.methodCall_KW (pl := pl) (thn (he.run pins s σ H _ I h) fun u s1 ⟨x, H1, I1, rx, ex, h2⟩ => ?_) ht
  subst ex
  obtain rfl : u = Value.ref C := rx
  refine ClX.getmethcm_ok I1 r c fun s2 I2 => ?_
  refine PySem.W.callWith_of hpl (PySem.W.keeps_M (K := X.K) (self := Value.ref C) c.fi) (evalArgs_kw2_nil hall (thn (hkw.run pos _ s2 σ H1 _ I2 h2) fun ws s3 ⟨zs, H2, I3, rz, hl, h3⟩ => ⟨⟨ClX.pin_at I3, I3.kIn⟩, ?_⟩))
  rw [hks]
  suffices z : wpAny (model X.prog X.w) X.A (call (.ref s1.heap.objs.size) [] (ks.zip ws)) (EP X ((s1.heap.objs.size, PySem.W.methodObj (.ref g) (.ref C)) :: pins) σ Q) X.xe s3 from thn z fun _ _ y => ClX.unpinE y
  refine wpAny_call (PySem.W.method_call (ClX.pin_at I3) ?_)
  have r2 : Vals (V.ref C :: zs) (Value.ref C :: ws) := .cons rfl rz
  refine codeAny_mono (F.run X.A X.stack s3 H2 ⟨Value.ref C :: [], ks.zip ws⟩ (Value.ref C :: ws) (V.ref C :: zs) Q E hr I3.env0 (hb s3 ws I3.kIn (rz.length.symm.trans hl)) r2 h3) fun r s' hq => ?_
  cases r with
  | error er => exact hx _ σ H2 s3 er s' I3 hq
  | ok fl =>
    cases fl with
    | ret u => exact I3.after hq
    | next => exact False.elim hq
    | brk => exact False.elim hq
    | cont => exact False.elim hq
end

/-! ### an error with a dict of its own, asked for its class in an except suite -/
theorem class_of_err {prog : Program} {w : World} {A : Around} {E : Value → Shared → Prop} {s : Shared} {K : PySem.W.Frag} {x D : Addr} {ox od : Obj} {Q : Option Value → Shared → Prop} (C : ExcC K D) (hK : K.In s.heap) (J : PySem.W.InstAt s.heap x ox D (some od))
    (h : Q (some (.ref D)) { s with toks := s.toks + 1 }) : wpAny (model prog w) A (getAttr? (.ref x) "__class__") Q E s := by
  have hcd : (PySem.W.clsIn K D).isSome = true := by
    obtain ⟨cd, hc, _⟩ := PySem.W.any_some C.hd
    rw [hc]
    rfl
  have hf : PySem.W.findObj K D (some od) "__class__" = some (.bind (.builtin "getset_descriptor.__get__") (.builtin "object.__class__")) := PySem.W.findObj_data hcd C.ha C.hn C.ht
  obtain ⟨hp, gg, dr, tt, os⟩ := s
  have T0 := J.type (M := model prog w)
  have T1 := PySem.W.looks_findIn (M := model prog w) hK C.hg
  have T2 := PySem.W.looks_findIn (M := model prog w) hK C.hk
  have T3 := PySem.W.looks_find (M := model prog w) hK J hf
  have below : PySem.W.Looks (model prog w) hp (isInstance (.ref x) (.type "BaseException")) true := T0.andThen (PySem.W.looks_subIn hK C.hs)
  have b0 : (false && onTheHeap (Value.builtin "BaseException.__getattribute__")) = false := rfl
  have b2 : (Value.builtin "BaseException.__getattribute__" == Value.builtin "object.__getattribute__") = false := by decide +kernel
  have b1 : (onTheHeap (Value.ref D) && Value.builtin "BaseException.__getattribute__" == Value.builtin "object.__getattribute__") = false := by rw [b2]; rfl
  unfold getAttr? getAttrBy? getAttrBy
  refine wpAny_bind (wpAny_mkText (wpAny_bind (wpAny_attempt (wpAny_holding (wpAny_bind (T0.at (wpAny_bind (T1.at ?_))))))))
  show wpAny _ _ (if (onTheHeap (Value.ref D) && Value.builtin "BaseException.__getattribute__" == Value.builtin "object.__getattribute__") = true then _ else _) _ _ _
  rw [b1, if_neg Bool.false_ne_true]
  unfold getAttrByItsOwn hookBefore
  refine wpAny_bind ?_
  rw [if_pos (show onTheHeap (Value.ref D) = true from rfl)]
  refine T2.at ?_
  refine wpAny_bind (wpAny_attempt (wpAny_holding ?_))
  unfold callGetattribute
  rw [b0, if_neg Bool.false_ne_true]
  unfold boundAndCalled
  rw [PySem.F.excAttr_ValueError.ga.bind (.ref x)]
  refine wpAny_bind (wpAny_pure ?_)
  show wpAny _ _ (call (.builtin "BaseException.__getattribute__") [.ref x, .str "__class__" tt]) _ _ _
  refine wpAny_call (codeAny_call_builtin PySem.F.excAttr_ValueError.ga.plain PySem.F.entry_bexc_ga ?_)
  refine @PySem.W.check_slot (model prog w) _ _ ⟨hp, gg, dr, tt + 1, os⟩ "BaseException.__getattribute__" "BaseException" "__getattribute__" (.ref x) [.str "__class__" tt] [] _ (by decide +kernel) (by decide +kernel) below (PySem.F.args_bexc_ga (.ref x) (.str "__class__" tt)) ?_
  unfold Builtin.«object.__getattribute__»
  refine wpAny_bind (wpAny_of_eq (a := ((Value.ref x : Value), [Value.str "__class__" tt])) (by first | rfl | (simp only [slotArgs]; rfl)) ?_)
  refine wpAny_bind (wpAny_pure (wpAny_bind (T0.at (wpAny_bind (T3.at ?_)))))
  show wpAny _ _ (holding [Value.builtin "object.__class__"] (call (.builtin "getset_descriptor.__get__") [.builtin "object.__class__", .ref x, .ref D]) >>= ret) _ _ _
  refine wpAny_bind (wpAny_holding (wpAny_call (PySem.W.class_get (s := ⟨hp, gg, dr, tt + 1, os⟩) (ox := ox) (od := some od) hK J C.hm ?_)))
  refine wpAny_pure ?_
  show wpAny _ _ (handedOut (.ref D)) _ _ _
  rw [PySem.W.handedOut_of (v := .ref D) rfl]
  first
    | exact wpAny_pure (wpAny_pure h)
    | exact wpAny_pure h
    | exact wpAny_pure (wpAny_bind (wpAny_pure (wpAny_pure h)))
theorem kit_err {K : PySem.W.Frag} {x D : Addr} {ox od : Obj} (C : ExcC K D) : PySem.W.KitX K (.ref x) (.ref D) (fun h => PySem.W.InstAt h x ox D (some od)) where
  ty := fun _ _ _ J => J.type
  it := fun _ _ hK _ => by
    obtain ⟨cdD, hcD, _⟩ := PySem.W.any_some C.hd
    unfold PySem.W.clsIn at hcD
    split at hcD
    · rename_i c' d' cd' sl' ho
      intro A' Q' E' s' kk q
      unfold isType loadHead
      exact wpAny_bind (wpAny_loadPart (kk _ _ (hK _ _ ho)) (wpAny_pure q))
    · cases hcD
  ne := fun h tp dd its n sl hK htp => by
    obtain ⟨cdD, hcD, _⟩ := PySem.W.any_some C.hd
    refine Bool.eq_false_iff.mpr fun q => ?_
    have e : D = tp := Value.ref.inj (beq_iff_eq.mp q)
    subst e
    unfold PySem.W.clsIn at hcD
    split at hcD
    · rename_i c' d' cd' sl' ho
      have z := (hK _ _ ho).symm.trans htp
      cases z
    · cases hcD
  ca := fun hK J q => class_of_err C hK J q
def rIsEd (K : PySem.W.Frag) (a : Addr) (cls : Value) (d : Option Addr) (D : Addr) : List V → Hp → VK → Prop := fun xs H Q => ∃ (c : V) (cv : Value) (b : Bool) (dd : Addr) (fs : List (Str × V)), xs = [.ref a, c] ∧ cls = .ref D ∧ d = some dd ∧ ClsV c cv ∧ PySem.W.kitOne K (.ref D) cv = some b ∧ H dd = some (.xd fs) ∧ Q (.bl b) H
theorem call_isEd {a D : Addr} {cls : Value} {d : Option Addr} {oe : Obj} {pn : List (Addr × Obj)} (C : ExcC X.K D) (hz : Zc cls d oe) (hf : ∃ vs, oe.data = .fields vs) : CallR (X.suite a ((a, oe) :: pn)) (.builtin "isinstance") (rIsEd X.K a cls d D) := by
  intro pins s σ H xs us Q I r h
  obtain ⟨c, cv, b, dd, fs, rfl, e1, e2, hcv, e, hd, q⟩ := h
  subst e1
  subst e2
  obtain ⟨u, w', rfl, ru, rw'⟩ := vals2 r
  obtain rfl : u = Value.ref a := ru
  obtain rfl := hcv.eq rw'
  obtain ⟨hget, _⟩ := I.pin (a, oe) (List.mem_append.mpr (.inl List.mem_cons_self))
  obtain ⟨vs, hv⟩ := hf
  have hx : ObjOk X.prog X.w H s.heap dd (.xd fs) := I.hok dd _ hd
  obtain ⟨mA, hns, hrel⟩ := hx
  obtain ⟨od, ho, hl⟩ := lookIn_ns hns
  have J : PySem.W.InstAt s.heap a oe D (some od) := ⟨hget, hz.1, by unfold PySem.W.notCls; rw [hv] <;> rfl, by rw [hz.2]; exact ho⟩
  exact PySem.W.kia_one (kit_err C) I.kIn J e (fun z => nomatch z) fun tk => ⟨.bl b, H, I.kept (t' := tk) fun _ _ z => z, rfl, q⟩
end

/-! ### isinstance by the written part; keywords in another order -/
theorem kit_self {K : PySem.W.Frag} {C : Addr} : PySem.W.kitOne K (.ref C) (.ref C) = some true := by
  unfold PySem.W.kitOne
  rw [if_pos (by simp)]
theorem kit_sub {K : PySem.W.Frag} {t : Value} {C : Addr} {b : Bool} (ic : PySem.W.isClsIn K C = true) (ty : PySem.W.typeIn K (.ref C) = some (.type "type")) (su : PySem.W.subIn K t (.ref C) = some b) (ne : t ≠ .ref C) : PySem.W.kitOne K t (.ref C) = some b := by
  unfold PySem.W.kitOne
  rw [if_neg (by simpa using ne)]
  show (if ((PySem.W.clsIn K C).isSome && PySem.W.typeIn K (.ref C) == some (.type "type")) = true then PySem.W.subIn K t (.ref C) else none) = some b
  rw [ty, show (PySem.W.clsIn K C).isSome = true from ic, if_pos (by simp)]
  exact su
theorem kit_not {K : PySem.W.Frag} {t : Value} {C : Addr} (ic : PySem.W.isClsIn K C = true) (ty : PySem.W.typeIn K (.ref C) = some (.type "type")) (su : PySem.W.subIn K t (.ref C) = some false) (ne : t ≠ .ref C) : PySem.W.kitOne K t (.ref C) = some false := kit_sub ic ty su ne
def permL {α : Type} (is : List Nat) (ws : List α) : List α := is.filterMap fun i => ws[i]?
theorem permL_rel (is : List Nat) {zs : List V} {ws : List Value} (r : Vals zs ws) : Vals (permL is zs) (permL is ws) := by
  induction is with
  | nil => exact .nil
  | cons i is ih =>
    unfold permL at ih ⊢
    rw [List.filterMap_cons, List.filterMap_cons]
    cases e : zs[i]? with
    | none =>
      rw [r.none_of e]
      exact ih
    | some x =>
      obtain ⟨u, hu, ru⟩ := r.get e
      rw [hu]
      exact .cons ru ih
end My

/-! My own rules about operators of own classes: + - * with an instance or an int on either side, in place, unary minus, == with either answer, != of two lists with the same items. -/
namespace My
open PySem PySem.Spec PyProof.Rows L2

section
variable {X : Cx} {CX : CXT} {k : Nat} {C f : Addr} {fd : FuncData} {ps : List Str} {sp : Sp} {E : XK}
theorem run_own {pins : List (Addr × Obj)} {s : Shared} {σ : L2.St} {H : Hp} {Q : VK} {us : List Value} {vs : List V} (F : FnOk X.prog X.w X.K X.mg X.base CX k f fd ps sp) (hr : Room k X.A) (hb : Binds X.K fd ps []) (hx : Passes CX X E)
    (I : Inv X pins σ H s) (r : Vals vs us) (h : sp vs H Q E) : wpAny (model X.prog X.w) X.A (call (.ref f) us) (EP X pins σ Q) X.xe s := by
  have hl : (us ++ []).length = ps.length := by
    rw [List.append_nil, ← F.len _ _ _ _ h]
    exact r.length.symm
  refine wpAny_call (codeAny_mono (F.run X.A X.stack s H ⟨us, []⟩ us vs _ E hr I.env0 (by
    have := hb s us I.kIn hl
    rw [List.append_nil] at this
    exact this) r h) fun r s' hq => ?_)
  cases r with
  | error e => exact hx pins σ H s e s' I hq
  | ok fl =>
    cases fl with
    | ret w => exact I.after hq
    | next => exact False.elim hq
    | brk => exact False.elim hq
    | cont => exact False.elim hq
/-- what is handed back is no NotImplemented -/
theorem back_of {pins : List (Addr × Obj)} {σ : L2.St} {Q : VK} {v : Value} {s : Shared} (h : EP X pins σ Q v s) : PySem.W.CmpBack (EP X pins σ Q) v s := by
  obtain ⟨x, H, I, r, q⟩ := id h
  cases x with
  | non => obtain rfl : v = Value.none := r; exact h
  | bl b => obtain rfl : v = Value.bool b := r; exact h
  | int i => obtain ⟨t, rfl⟩ := r; exact h
  | str i => obtain ⟨t, rfl⟩ := r; exact h
  | byt i => obtain ⟨t, rfl⟩ := r; exact h
  | flt i => obtain ⟨t, rfl⟩ := r; exact h
  | ref a => obtain rfl : v = Value.ref a := r; exact h
  | ty n => obtain rfl : v = Value.type n := r; exact h

/-! ### the unary minus -/
def rNegO (C : Addr) (sp : Sp) (E : XK) : V → Hp → VK → Prop := fun x H Q => ∃ a dx fs, x = .ref a ∧ H a = some (.ins C dx fs) ∧ sp [.ref a] H Q E
theorem un_negO (hs : PySem.W.findIn X.K (.ref C) "__neg__" = some (some (.ref f))) (hf : PySem.W.isFn X.K (.ref f) = true) (F : FnOk X.prog X.w X.K X.mg X.base CX k f fd ps sp) (hr : Room k X.A) (hb : Binds X.K fd ps []) (hx : Passes CX X E) :
    UnR X (unaryOp .USub) (rNegO C sp E) := by
  intro pins s σ H x v Q I rx h
  obtain ⟨a, dx, fs, rfl, ea, q⟩ := h
  obtain rfl : v = Value.ref a := rx
  obtain ⟨mA, J, _⟩ := ins_get I.hok ea
  obtain ⟨od, J, _⟩ := J.look
  obtain ⟨m, hF⟩ := I.fr
  exact PySem.W.ksp_neg hF I.ok.mod.kin J hs hf (run_own (vs := [V.ref a]) F hr hb hx I (.cons rfl .nil) q)

/-! ### the operators with two sides -/
/-- what of the text an operator must have -/
structure OpO (K : PySem.W.Frag) (C : Addr) (nm : String) (f g : Addr) : Prop where
  sf : PySem.W.selfFirst K C = true
  ls : PySem.W.findIn K (.ref C) (PySem.dunder nm) = some (some (.ref f))
  lf : PySem.W.isFn K (.ref f) = true
  rs : PySem.W.findIn K (.ref C) (dunderR nm) = some (some (.ref g))
  rf : PySem.W.isFn K (.ref g) = true
  i1 : ∃ fo, PySem.W.findIn K (.type "int") (PySem.dunder nm) = some fo
  i2 : ∃ ro, PySem.W.findIn K (.type "int") (dunderR nm) = some ro
  su : PySem.W.subIn K (.type "int") (.ref C) = some false
  us : PySem.W.subIn K (.ref C) (.type "int") = some false
/-- int declines -/
structure Dec (nm : String) (id : String) (B : Builtin) : Prop where
  slot : Slot "int" (PySem.dunder nm) id
  entry : entryFor table id = some B
  args : ∀ a b, argsOk id ⟨[a, b], []⟩
  fills : fillsNumberSlot (.type "int") nm = pure true
  body : ∀ (a : Int) (t : Tok) (l C dx : Addr), Meets (B ⟨[.int a t, .ref l], []⟩) (fun _ R s => s.heap.get? l = some (PySem.W.instObj C dx) ∧ R (.ok (.ret Value.notImplemented)) s)
theorem dec_add : Dec "add" "int.__add__" Builtin.«int.__add__» := ⟨F.slot_int_add, F.entry_int_add, F.args_int_add_2, F.fills_int_add, fun a t l C dx => .of_wp fun prog w A R s h => by obtain ⟨hp, g, d, tk, os⟩ := s; obtain ⟨hl, h⟩ := h; wp_walk; exact ⟨_, rfl, h⟩⟩
theorem dec_sub : Dec "sub" "int.__sub__" Builtin.«int.__sub__» := ⟨F.slot_int_sub, F.entry_int_sub, F.args_int_sub_2, F.fills_int_sub, fun a t l C dx => .of_wp fun prog w A R s h => by obtain ⟨hp, g, d, tk, os⟩ := s; obtain ⟨hl, h⟩ := h; wp_walk; exact ⟨_, rfl, h⟩⟩
theorem dec_mul : Dec "mul" "int.__mul__" Builtin.«int.__mul__» := ⟨F.slot_int_mul, F.entry_int_mul, F.args_int_mul_2, F.fills_int_mul, fun a t l C dx => .of_wp fun prog w A R s h => by obtain ⟨hp, g, d, tk, os⟩ := s; obtain ⟨hl, h⟩ := h; wp_walk; exact ⟨_, rfl, h⟩⟩

section
variable {prog : Program} {w : World} {A : Around} {Ex : Value → Shared → Prop} {s : Shared} {K : PySem.W.Frag} {C f g : Addr} {nm : String}
open PySem.W
theorem b1_own {x y : Addr} {odx ody : Option Obj} {ox oy : Obj} {Q : Value → Shared → Prop} (X : K.In s.heap) (O : OpO K C nm f g) (I : InstAt s.heap x ox C odx) (J : InstAt s.heap y oy C ody)
    (h : wpAny (model prog w) A (call (.ref f) [.ref x, .ref y]) (PySem.W.CmpBack Q) Ex s) : wpAny (model prog w) A (binaryOp1 nm (.ref x) (.ref y)) (fun r s' => ∃ v, r = some v ∧ Q v s') Ex s := by
  obtain ⟨cd, rest, hcd, hm⟩ := ksp_first O.sf
  unfold binaryOp1
  refine wpAny_bind (I.type.here (wpAny_bind (J.type.here (wpAny_bind ((fills_K X hcd hm O.ls).here ?_)))))
  simp only [beq_self_eq_true, if_true]
  refine wpAny_bind (wpAny_pure ?_)
  simp only [Bool.and_false, Bool.false_eq_true, if_false, Bool.false_and]
  refine wpAny_bind (wpAny_pure ?_)
  simp only [Bool.false_eq_true, if_false]
  refine wpAny_bind (m := tryMethod (.ref x) _ (.ref y)) (wpAny_mono (ksp_try X I O.ls O.lf h) (fun r s' hr => ?_) fun _ _ e => e)
  obtain ⟨v, rfl, hq⟩ := hr
  exact wpAny_pure ⟨v, rfl, hq⟩
theorem b1_int {x : Addr} {i : Int} {t : Tok} {odx : Option Obj} {ox : Obj} {Q : Value → Shared → Prop} (X : K.In s.heap) (O : OpO K C nm f g) (I : InstAt s.heap x ox C odx)
    (h : wpAny (model prog w) A (call (.ref f) [.ref x, .int i t]) (PySem.W.CmpBack Q) Ex s) : wpAny (model prog w) A (binaryOp1 nm (.ref x) (.int i t)) (fun r s' => ∃ v, r = some v ∧ Q v s') Ex s := by
  obtain ⟨cd, rest, hcd, hm⟩ := ksp_first O.sf
  obtain ⟨fo, h1⟩ := O.i1
  obtain ⟨ro, h2⟩ := O.i2
  have one := ksp_try X I O.ls O.lf h
  obtain ⟨hh, gg, d, tt, os⟩ := s
  have L1 : Looks (model prog w) hh (typeOf (.ref x)) (.ref C) := I.type
  have L2 : Looks (model prog w) hh (typeOf (.int i t)) (.type "int") := Looks.of_pure rfl
  have L3 : Looks (model prog w) hh (fillsNumberSlot (.ref C) nm) true := fills_K X hcd hm O.ls
  have L4 : Looks (model prog w) hh (fillsNumberSlot (.type "int") nm) ((fo.isSome && !isSeqSlot fo) || (ro.isSome && !isSeqSlot ro)) := ksp_fillsT X h1 h2
  have L5 : Looks (model prog w) hh (isSubtype (.type "int") (.ref C)) false := looks_subIn X O.su
  have L6 : Looks (model prog w) hh (numberSlotInPython (.ref C) nm) true := ksp_inPy X O.ls O.rs (.inr ⟨_, rfl⟩)
  have L7 : Looks (model prog w) hh (numberSlotInPython (.type "int") nm) false := Looks.of_pure rfl
  have L8 : Looks (model prog w) hh (typeLookup (.type "int") (dunderR nm)) ro := looks_findIn X h2
  generalize ((fo.isSome && !isSeqSlot fo) || (ro.isSome && !isSeqSlot ro)) = right at L4
  have hne : (Value.ref C == Value.type "int") = false := Bool.eq_false_iff.mpr fun q => by cases beq_iff_eq.mp q
  unfold binaryOp1
  refine wpAny_bind (L1.at (wpAny_bind (L2.at (wpAny_bind (L3.at ?_)))))
  simp only [hne, Bool.false_eq_true, if_false]
  cases right with
  | false =>
    ksp_lk
    refine wpAny_mono one (fun r s' hr' => ?_) fun _ _ e => e
    obtain ⟨v, rfl, hq⟩ := hr'
    ksp_lk
    exact ⟨v, rfl, hq⟩
  | true =>
    ksp_lk
    refine wpAny_mono one (fun r s' hr' => ?_) fun _ _ e => e
    obtain ⟨v, rfl, hq⟩ := hr'
    ksp_lk
    exact ⟨v, rfl, hq⟩
theorem b1_rint {x dx : Addr} {i : Int} {t : Tok} {odx : Option Obj} {id : String} {B : Builtin} {Q : Value → Shared → Prop} (D : Dec nm id B) (X : K.In s.heap) (O : OpO K C nm f g) (I : InstAt s.heap x (instObj C dx) C odx)
    (h : wpAny (model prog w) A (call (.ref g) [.ref x, .int i t]) (PySem.W.CmpBack Q) Ex s) : wpAny (model prog w) A (binaryOp1 nm (.int i t) (.ref x)) (fun r s' => ∃ v, r = some v ∧ Q v s') Ex s := by
  obtain ⟨cd, rest, hcd, hm⟩ := ksp_first O.sf
  have one := ksp_try X I O.rs O.rf h
  have two : wpAny (model prog w) A (tryMethod (.int i t) (PySem.dunder nm) (.ref x)) (fun r s' => r = none ∧ s' = s) Ex s :=
    wpAny_tryMethod_declines (typeIs_int s i t) D.slot (call_meets D.slot (typeIs_int s i t) D.entry (D.args _ _) (D.body i t x C dx) ⟨I.at_, rfl, rfl, rfl⟩)
  have L1 : Looks (model prog w) s.heap (typeOf (.ref x)) (.ref C) := I.type
  have L3 : Looks (model prog w) s.heap (fillsNumberSlot (.ref C) nm) true := fills_K X hcd hm O.ls
  have L5 : Looks (model prog w) s.heap (isSubtype (.ref C) (.type "int")) false := looks_subIn X O.us
  have hne : (Value.type "int" == Value.ref C) = false := Bool.eq_false_iff.mpr fun q => by cases beq_iff_eq.mp q
  have hpy : numberSlotInPython (.type "int") nm = pure false := rfl
  unfold binaryOp1
  refine wpAny_bind (wpAny_typeOf (typeIs_int s i t) (wpAny_bind (L1.here (wpAny_bind (wpAny_of_eq D.fills ?_)))))
  simp only [hne, Bool.false_eq_true, if_false]
  refine wpAny_bind (L3.here ?_)
  simp only [Bool.and_self, if_true]
  refine wpAny_bind (L5.here ?_)
  simp only [Bool.false_eq_true, if_false, pure_bind, Bool.not_false, Bool.and_self, if_true, hpy]
  refine wpAny_bind (wpAny_mono two (fun r s' hr => ?_) fun _ _ e => e)
  obtain ⟨rfl, rfl⟩ := hr
  refine wpAny_bind (wpAny_mono one (fun r s' hr => ?_) fun _ _ e => e)
  obtain ⟨v, rfl, hq⟩ := hr
  ksp_lk
  exact ⟨v, rfl, hq⟩
end

/-! ### the operators as rules -/
section
variable {X : Cx} {CX CX' : CXT} {k k' : Nat} {C f g : Addr} {fd fd' : FuncData} {ps ps' : List Str} {sp sp' : Sp} {E : XK} {op : Operator}
theorem op_or {F : Value → Value → Sem Value} {r1 r2 : R2} (a : OpR X F r1) (b : OpR X F r2) : OpR X F (fun x y H Q => r1 x y H Q ∨ r2 x y H Q) := by
  intro pins s σ H x y v u Q I rx ry h
  rcases h with h | h
  · exact a pins s σ H x y v u Q I rx ry h
  · exact b pins s σ H x y v u Q I rx ry h
theorem un_or {F : Value → Sem Value} {r1 r2 : V → Hp → VK → Prop} (a : UnR X F r1) (b : UnR X F r2) : UnR X F (fun x H Q => r1 x H Q ∨ r2 x H Q) := by
  intro pins s σ H x v Q I rx h
  rcases h with h | h
  · exact a pins s σ H x v Q I rx h
  · exact b pins s σ H x v Q I rx h
def rOO (C : Addr) (sp : Sp) (E : XK) : R2 := fun x y H Q => ∃ a dx fs b dy gs, x = .ref a ∧ y = .ref b ∧ H a = some (.ins C dx fs) ∧ H b = some (.ins C dy gs) ∧ sp [.ref a, .ref b] H Q E
def rOI (C : Addr) (sp : Sp) (E : XK) : R2 := fun x y H Q => ∃ a dx fs i, x = .ref a ∧ y = .int i ∧ H a = some (.ins C dx fs) ∧ sp [.ref a, .int i] H Q E
def rIO (C : Addr) (sp : Sp) (E : XK) : R2 := fun x y H Q => ∃ b dy gs i, x = .int i ∧ y = .ref b ∧ H b = some (.ins C dy gs) ∧ sp [.ref b, .int i] H Q E
theorem b1_oo {nm : String} (O : OpO X.K C nm f g) (F : FnOk X.prog X.w X.K X.mg X.base CX k f fd ps sp) (hr : Room k X.A) (hb : Binds X.K fd ps []) (hx : Passes CX X E)
    {pins : List (Addr × Obj)} {s : Shared} {σ : L2.St} {H : Hp} {x y : V} {v u : Value} {Q : VK} (I : Inv X pins σ H s) (rx : RelV x v) (ry : RelV y u) (h : rOO C sp E x y H Q) :
    wpAny (model X.prog X.w) X.A (binaryOp1 nm v u) (fun r s' => ∃ z, r = some z ∧ EP X pins σ Q z s') X.xe s := by
  obtain ⟨a, dx, fs, b, dy, gs, rfl, rfl, ea, eb, q⟩ := h
  obtain rfl : v = Value.ref a := rx
  obtain rfl : u = Value.ref b := ry
  obtain ⟨mA, J, _⟩ := ins_get I.hok ea
  obtain ⟨od, J, _⟩ := J.look
  obtain ⟨mB, J', _⟩ := ins_get I.hok eb
  obtain ⟨od', J', _⟩ := J'.look
  exact b1_own I.kIn O J J' (wpAny_mono (run_own (vs := [V.ref a, V.ref b]) F hr hb hx I (.cons rfl (.cons rfl .nil)) q) (fun _ _ z => back_of z) fun _ _ e => e)
theorem b1_oi {nm : String} (O : OpO X.K C nm f g) (F : FnOk X.prog X.w X.K X.mg X.base CX k f fd ps sp) (hr : Room k X.A) (hb : Binds X.K fd ps []) (hx : Passes CX X E)
    {pins : List (Addr × Obj)} {s : Shared} {σ : L2.St} {H : Hp} {x y : V} {v u : Value} {Q : VK} (I : Inv X pins σ H s) (rx : RelV x v) (ry : RelV y u) (h : rOI C sp E x y H Q) :
    wpAny (model X.prog X.w) X.A (binaryOp1 nm v u) (fun r s' => ∃ z, r = some z ∧ EP X pins σ Q z s') X.xe s := by
  obtain ⟨a, dx, fs, i, rfl, rfl, ea, q⟩ := h
  obtain rfl : v = Value.ref a := rx
  obtain ⟨t, rfl⟩ := ry
  obtain ⟨mA, J, _⟩ := ins_get I.hok ea
  obtain ⟨od, J, _⟩ := J.look
  exact b1_int I.kIn O J (wpAny_mono (run_own (vs := [V.ref a, V.int i]) F hr hb hx I (.cons rfl (.cons ⟨t, rfl⟩ .nil)) q) (fun _ _ z => back_of z) fun _ _ e => e)
theorem b1_io {nm : String} {id : String} {B : Builtin} (D : Dec nm id B) (O : OpO X.K C nm f g) (F : FnOk X.prog X.w X.K X.mg X.base CX k g fd ps sp) (hr : Room k X.A) (hb : Binds X.K fd ps []) (hx : Passes CX X E)
    {pins : List (Addr × Obj)} {s : Shared} {σ : L2.St} {H : Hp} {x y : V} {v u : Value} {Q : VK} (I : Inv X pins σ H s) (rx : RelV x v) (ry : RelV y u) (h : rIO C sp E x y H Q) :
    wpAny (model X.prog X.w) X.A (binaryOp1 nm v u) (fun r s' => ∃ z, r = some z ∧ EP X pins σ Q z s') X.xe s := by
  obtain ⟨b, dx, fs, i, rfl, rfl, ea, q⟩ := h
  obtain rfl : u = Value.ref b := ry
  obtain ⟨t, rfl⟩ := rx
  obtain ⟨mA, J, _⟩ := ins_get I.hok ea
  obtain ⟨od, J, _⟩ := J.look
  exact b1_rint D I.kIn O J (wpAny_mono (run_own (vs := [V.ref b, V.int i]) F hr hb hx I (.cons rfl (.cons ⟨t, rfl⟩ .nil)) q) (fun _ _ z => back_of z) fun _ _ e => e)
theorem bin_of {M : Model} {A : Around} {Ex : Value → Shared → Prop} {s : Shared} {nm : String} (hn : op.info.2 = nm) {v u : Value} {R : Value → Shared → Prop} (h : wpAny M A (binaryOp1 nm v u) (fun r s' => ∃ z, r = some z ∧ R z s') Ex s) : wpAny M A (binaryOp op v u) R Ex s := by
  unfold binaryOp
  refine wpAny_holding (wpAny_bind ?_)
  subst hn
  refine wpAny_mono (show wpAny M A (binaryOp1 op.info.2 v u) _ _ _ from h) (fun r s' hr => ?_) fun _ _ e => e
  obtain ⟨z, rfl, q⟩ := hr
  exact wpAny_pure q
theorem op_oo {nm : String} (hn : op.info.2 = nm) (O : OpO X.K C nm f g) (F : FnOk X.prog X.w X.K X.mg X.base CX k f fd ps sp) (hr : Room k X.A) (hb : Binds X.K fd ps []) (hx : Passes CX X E) : OpR X (binaryOp op) (rOO C sp E) :=
  fun _ _ _ _ _ _ _ _ _ I rx ry h => bin_of hn (b1_oo O F hr hb hx I rx ry h)
theorem op_oi {nm : String} (hn : op.info.2 = nm) (O : OpO X.K C nm f g) (F : FnOk X.prog X.w X.K X.mg X.base CX k f fd ps sp) (hr : Room k X.A) (hb : Binds X.K fd ps []) (hx : Passes CX X E) : OpR X (binaryOp op) (rOI C sp E) :=
  fun _ _ _ _ _ _ _ _ _ I rx ry h => bin_of hn (b1_oi O F hr hb hx I rx ry h)
theorem op_io {nm : String} {id : String} {B : Builtin} (hn : op.info.2 = nm) (D : Dec nm id B) (O : OpO X.K C nm f g) (F : FnOk X.prog X.w X.K X.mg X.base CX k g fd ps sp) (hr : Room k X.A) (hb : Binds X.K fd ps []) (hx : Passes CX X E) : OpR X (binaryOp op) (rIO C sp E) :=
  fun _ _ _ _ _ _ _ _ _ I rx ry h => bin_of hn (b1_io D O F hr hb hx I rx ry h)
/-! ### in place, without a method of its own for it -/
structure NoI (K : PySem.W.Frag) (C : Addr) (nm : String) : Prop where
  mro : ∃ cd, PySem.W.clsIn K C = some cd ∧ cd.mro = [.ref C, .type "object"]
  own : PySem.W.findIn K (.ref C) (dunderI nm) = some none
  obj : PySem.W.findIn K (.type "object") (dunderI nm) = some none
open PySem.W in
theorem looks_noI {M : Model} {h : Heap} {nm : String} {add : Bool} {K : Frag} (X : K.In h) (N : NoI K C nm) : Looks M h (fillsInplaceSlot (.ref C) nm add) false := by
  intro A Q E s k q
  obtain ⟨cd, hc, hm⟩ := N.mro
  have Lm : Looks M h (mroOf (.ref C)) cd.mro := (looks_clsIn X hc).andThen (f := fun cd => pure cd.mro) .now
  have Lm' := Lm.keeps k
  obtain ⟨hh, g, d, tt, os⟩ := s
  have X' : K.In hh := X.keeps k
  have L1 : Looks M hh (typeLookup (.ref C) (dunderI nm)) none := looks_findIn X' N.own
  have L2 : Looks M hh (typeLookup (.type "object") (dunderI nm)) none := looks_findIn X' N.obj
  unfold fillsInplaceSlot
  refine wpAny_bind (Lm'.at ?_)
  rw [hm, List.anyM_cons]
  refine wpAny_bind (wpAny_bind (L1.at ?_))
  refine wpAny_pure ?_
  rw [if_neg Bool.false_ne_true, List.anyM_cons]
  refine wpAny_bind (wpAny_bind (L2.at ?_))
  refine wpAny_pure ?_
  rw [if_neg Bool.false_ne_true]
  exact wpAny_pure q
theorem inp_of {M : Model} {A : Around} {Ex : Value → Shared → Prop} {s : Shared} {nm : String} {K : PySem.W.Frag} {a dx : Addr} {ox : Obj} {od : Option Obj} (hn : op.info.2 = nm) (X : K.In s.heap) (I : PySem.W.InstAt s.heap a ox C od) (N : NoI K C nm) {u : Value} {R : Value → Shared → Prop}
    (h : wpAny M A (binaryOp1 nm (.ref a) u) (fun r s' => ∃ z, r = some z ∧ R z s') Ex s) : wpAny M A (inplaceOp op (.ref a) u) R Ex s := by
  subst hn
  unfold inplaceOp
  refine wpAny_holding ?_
  refine wpAny_bind (I.type.here ?_)
  refine wpAny_bind ((looks_noI X N).here ?_)
  rw [if_neg Bool.false_ne_true]
  refine wpAny_bind (wpAny_mono h (fun r s' hr => ?_) fun _ _ e => e)
  obtain ⟨z, rfl, q⟩ := hr
  exact wpAny_pure q
theorem iop_oo {nm : String} (hn : op.info.2 = nm) (N : NoI X.K C nm) (O : OpO X.K C nm f g) (F : FnOk X.prog X.w X.K X.mg X.base CX k f fd ps sp) (hr : Room k X.A) (hb : Binds X.K fd ps []) (hx : Passes CX X E) : OpR X (inplaceOp op) (rOO C sp E) := by
  intro pins s σ H x y v u Q I rx ry h
  have h' := b1_oo O F hr hb hx I rx ry h
  obtain ⟨a, dx, fs, b, dy, gs, rfl, rfl, ea, eb, q⟩ := h
  obtain rfl : v = Value.ref a := rx
  obtain ⟨mA, J, _⟩ := ins_get I.hok ea
  obtain ⟨od, J, _⟩ := J.look
  exact inp_of (dx := dx) hn I.kIn J N h'
theorem iop_oi {nm : String} (hn : op.info.2 = nm) (N : NoI X.K C nm) (O : OpO X.K C nm f g) (F : FnOk X.prog X.w X.K X.mg X.base CX k f fd ps sp) (hr : Room k X.A) (hb : Binds X.K fd ps []) (hx : Passes CX X E) : OpR X (inplaceOp op) (rOI C sp E) := by
  intro pins s σ H x y v u Q I rx ry h
  have h' := b1_oi O F hr hb hx I rx ry h
  obtain ⟨a, dx, fs, i, rfl, rfl, ea, q⟩ := h
  obtain rfl : v = Value.ref a := rx
  obtain ⟨mA, J, _⟩ := ins_get I.hok ea
  obtain ⟨od, J, _⟩ := J.look
  exact inp_of (dx := dx) hn I.kIn J N h'
/-! ### == by the class's own method, with either answer -/
theorem cmp_own (hs : PySem.W.findIn X.K (.ref C) "__eq__" = some (some (.ref f))) (hf : PySem.W.isFn X.K (.ref f) = true) (F : FnOk X.prog X.w X.K X.mg X.base CX k f fd ps sp) (hr : Room k X.A) (hb : Binds X.K fd ps []) (hx : Passes CX X E) : OpR X (compareOp .Eq) (rOO C sp E) := by
  intro pins s σ H x y v u Q I rx ry h
  obtain ⟨a, dx, fs, b, dy, gs, rfl, rfl, ea, eb, q⟩ := h
  obtain rfl : v = Value.ref a := rx
  obtain rfl : u = Value.ref b := ry
  obtain ⟨mA, J, _⟩ := ins_get I.hok ea
  obtain ⟨od, J, _⟩ := J.look
  obtain ⟨mB, J', _⟩ := ins_get I.hok eb
  obtain ⟨od', J', _⟩ := J'.look
  obtain ⟨m, hF⟩ := I.fr
  show wpAny (model X.prog X.w) X.A (richCompare .Eq (.ref a) (.ref b)) (EP X pins σ Q) X.xe s
  refine PySem.W.cmp_K (op := .Eq) (tb := .ref C) hr.units0 hF I.ok.mod.kin J J'.type (by simp [PySem.W.notFirst]) hs hf ?_
  exact wpAny_mono (run_own (vs := [V.ref a, V.ref b]) F hr hb hx I (.cons rfl (.cons rfl .nil)) q) (fun _ _ z => back_of z) fun _ _ e => e
/-! ### != of two lists with the same items -/
def plainV : V → Bool
  | .int _ => true
  | .ref _ => true
  | _ => false
def rNeSame (K : PySem.W.Frag) : R2 := fun x y H Q => ∃ a b xs, x = .ref a ∧ y = .ref b ∧ SqL K H a xs ∧ SqL K H b xs ∧ (∀ z ∈ xs, plainV z = true) ∧ Q (.bl false) H
theorem eqAt_same {A : Around} {s : Shared} {z : V} {u v : Value} (h : plainV z = true) (r : RelV z u) (r' : RelV z v) : SeqAt.EqAt A s u v true := by
  cases z with
  | int i =>
    have := eqAt_V (A := A) (s := s) r r' rfl rfl
    have e : eqV (.int i) (.int i) = true := by simp [eqV]
    rw [e] at this
    exact this
  | ref a =>
    obtain rfl : u = Value.ref a := r
    obtain rfl : v = Value.ref a := r'
    exact SeqAt.EqAt.same _
  | _ => cases h
theorem op_neSame (hu : X.A.units < cLine) : OpR X (compareOp .NotEq) (rNeSame X.K) := by
  intro pins s σ H x y v u Q I rx ry h
  obtain ⟨a, b, xs, rfl, rfl, ha, hb, hp, q⟩ := h
  obtain rfl : v = Value.ref a := rx
  obtain rfl : u = Value.ref b := ry
  obtain ⟨its, r, ⟨o, n, e, c, d, dt⟩, _⟩ := I.list ha
  obtain ⟨its2, r2, ⟨o2, n2, e2, c2, d2, dt2⟩, _⟩ := I.list hb
  have hsz : its.toArray.size = its2.toArray.size := by rw [List.size_toArray, List.size_toArray, ← r.length, ← r2.length]
  show wpAny (model X.prog X.w) X.A (richCompare .NotEq (.ref a) (.ref b)) (EP X pins σ Q) X.xe s
  refine SeqAt.RcNeAt.lists (e := fun _ => true) ⟨o, e, c, n, dt⟩ ⟨o2, e2, c2, n2, dt2⟩ hsz hu (fun j h1 h2 => ?_) _ _ _ _ ?_
  · have k1 : j < xs.length := by rw [r.length]; simpa using h1
    obtain ⟨w1, hw1, rw1⟩ := r.get (List.getElem?_eq_getElem k1)
    obtain ⟨w2, hw2, rw2⟩ := r2.get (List.getElem?_eq_getElem k1)
    have g1 : its[j]? = some its.toArray[j] := by
      have h1' : j < its.length := by simpa using h1
      rw [List.getElem?_eq_getElem h1'] <;> simp
    have g2 : its2[j]? = some its2.toArray[j] := by
      have h2' : j < its2.length := by simpa using h2
      rw [List.getElem?_eq_getElem h2'] <;> simp
    rw [g1] at hw1
    rw [g2] at hw2
    rw [Option.some.inj hw1, Option.some.inj hw2]
    exact eqAt_same (hp _ (List.getElem_mem k1)) rw1 rw2
  · have e : (!(List.range its.toArray.size).all fun _ => true) = false := by simp
    rw [e]
    exact ⟨.bl false, H, I, rfl, q⟩
end
/-! ### list or tuple -/
section
variable {X : Cx}
theorem ix_or {r1 r2 : R2} (a : IxR X r1) (b : IxR X r2) : IxR X (fun x y H Q => r1 x y H Q ∨ r2 x y H Q) := by
  intro value slice pins s σ H x y v u Q I rx ry h
  rcases h with h | h
  · exact a value slice pins s σ H x y v u Q I rx ry h
  · exact b value slice pins s σ H x y v u Q I rx ry h
def iSeq (K : PySem.W.Frag) (tl : TE) : TI := fun σ H R => tl σ H fun x H1 => ∃ a, x = .ref a ∧ (((∃ xs, SqL K H1 a xs) ∧ R (Itl K a) H1) ∨ ((∃ xs, SqT K H1 a xs) ∧ R (Itt K a) H1))
theorem pi_seq {tg l : Expr} {tl : TE} (hl : PE X l tl) : PI X tg l (iSeq X.K tl) := by
  refine ⟨fun pins s σ H R I h => ?_⟩
  refine thn (hl.run pins s σ H _ I h) fun v s1 ⟨x, H1, I1, r1, q1⟩ => ?_
  obtain ⟨a, e, ⟨⟨xs, hq⟩, q⟩ | ⟨⟨xs, hq⟩, q⟩⟩ := q1
  · subst e
    cases r1
    obtain ⟨its, rv, p, hz⟩ := I1.list hq
    refine wpAny_pyIter_list p.isList ?_
    refine ⟨s1.heap.objs.size, [s1.heap.objs.size], _, _, H1, rfl, I1.kept (t' := s1.toks) fun b o e => Heap.get?_push_of_some _ e, turn_list a _, ⟨_, Heap.get?_push_size _ rfl, rfl, rfl⟩, fun b hb => ?_, q⟩
    have e : b = s1.heap.objs.size := by simpa using hb
    subst e
    exact I1.fpOk (Nat.le_refl _) (I1.hok.fresh (Nat.le_refl _))
  · subst e
    cases r1
    obtain ⟨its, rv, p, hz⟩ := I1.tuple hq
    refine wpAny_pyIter_tuple (show s1.heap.IsTuple a its.toArray from p) ?_
    refine ⟨s1.heap.objs.size, [s1.heap.objs.size], _, _, H1, rfl, I1.kept (t' := s1.toks) fun b o e => Heap.get?_push_of_some _ e, turn_tuple a _, ⟨_, Heap.get?_push_size _ rfl, rfl, rfl⟩, fun b hb => ?_, q⟩
    have e : b = s1.heap.objs.size := by simpa using hb
    subst e
    exact I1.fpOk (Nat.le_refl _) (I1.hok.fresh (Nat.le_refl _))
end
end
end My

/-! My own rules about calls that raise: by keywords alone, at the caller's slots; through a def's body. -/
namespace My
open PySem PySem.Spec PyProof.Rows L2
section
variable {X : Cx} {CX : CXT} {k : Nat} {f : Addr} {fd : FuncData} {ps ks : List Str} {sp : Sp} {E : L2.St → XK} {x : Str} {p pos : Pos} {kws : List Keyword} {tk : TA} {g : List Value → List Value → List Value} {gV : List V → List V → List V}
theorem run_fnkS {pins : List (Addr × Obj)} {σ : L2.St} {H : Hp} {s : Shared} {Q : VK} {us ws : List Value} {vs zs : List V} (F : FnOk X.prog X.w X.K X.mg X.base CX k f fd ps sp) (hr : Room k X.A) (hb : KBinds X.K fd ps ks g gV) (hx : PassesAt CX X σ (E σ))
    (I : Inv X pins σ H s) (r : Vals vs us) (rz : Vals zs ws) (h : sp (gV vs zs) H Q (E σ)) : wpAny (model X.prog X.w) X.A (call (.ref f) us (ks.zip ws)) (EP X pins σ Q) X.xe s := by
  have r2 := hb.rel r rz
  have hl : (g us ws).length = ps.length := by rw [← r2.length]; exact F.len _ _ _ _ h
  refine wpAny_call (codeAny_mono (F.run X.A X.stack s H ⟨us, ks.zip ws⟩ (g us ws) (gV vs zs) Q (E σ) hr I.env0 (hb.to s us ws I.kIn hl) r2 h) fun r s' hq => ?_)
  cases r with
  | error e => exact hx pins H s e s' I hq
  | ok fl =>
    cases fl with
    | ret u => exact I.after hq
    | next => exact False.elim hq
    | brk => exact False.elim hq
    | cont => exact False.elim hq
def tCallK0S (sp : Sp) (gV : List V → List V → List V) (E : L2.St → XK) (tk : TA) : TE := fun σ H Q => tk σ H fun zs H2 => sp (gV [] zs) H2 Q (E σ)
theorem pe_callK0S (F : FnOk X.prog X.w X.K X.mg X.base CX k f fd ps sp) (hr : Room k X.A) (hg : Gl X x) (hm : X.mg x = some (.ref f)) (hk : PySem.W.keepIn X.K (.ref f) = true) (hb : KBinds X.K fd ps ks g gV) (hx : ∀ σ, PassesAt CX X σ (E σ))
    (hkw : PK X kws tk) (hall : (backToKw pos (keywordEach kws X.env)).all (·.1.isSome) = true := by rfl) (hks : (backToKw pos (keywordEach kws X.env)).filterMap (·.1) = ks := by rfl)
    (hdb : (x == ("__debug__" : Str)) = false := by decide)
    (hpl : ((backTo pos (starEach [] X.env)).any (·.1) || (backToKw pos (keywordEach kws X.env)).any (·.1.isNone)) = false := by rfl) :
    PE X (.Call (.Name x p) [] kws pos) (tCallK0S sp gV E tk) := by
  refine ⟨fun pins s σ H Q I h => ?_⟩
  refine wpAny_Call_Name_kw (ld_glob I hg hm ?_ hdb)
  refine PySem.W.callWith_KW0 (h₀ := X.base) I.ok.mod.kin hk hall (thn (hkw.run pos pins s σ H _ I h) fun ws s2 ⟨zs, H2, I2, rz, q2⟩ => ⟨I2.kIn, ?_⟩) hpl
  rw [hks]
  exact run_fnkS (us := []) (vs := []) F hr hb (hx σ) I2 .nil rz q2
end
section
variable {X : Cx} {E E' : XK}
/-- what a callee lets out leaves this def too -/
theorem passX (tk : Takes X (fun cls d _ H => E cls d H)) : Passes (L2.CX X.prog X.w) X E := fun pins σ H s e s' I c => L2.passes_call tk (fun _ _ _ _ h => h) pins σ H s e s' I c
end
end My

namespace My
open PySem PySem.Spec PyProof.Rows L2
def topS (i : Nat) : Stmt := PySem.Challenge.pw_extralink_k05_least_and_greatest.main.body.getD i (.Pass ⟨0, 0, 0, 0⟩)
abbrev s_as_ratio : Stmt := topS 13
theorem sc_as_ratio : FnScope ["value"] ["value"] (defScope s_as_ratio) := ⟨rfl, rfl, rfl, by decide +kernel, rfl, by decide +kernel, by decide +kernel⟩
abbrev s_least : Stmt := topS 14
theorem sc_least : FnScope ["values", "best", "value", "ratio"] ["values"] (defScope s_least) := ⟨rfl, rfl, rfl, by decide +kernel, rfl, by decide +kernel, by decide +kernel⟩
abbrev s_greatest : Stmt := topS 15
theorem sc_greatest : FnScope ["values", "value"] ["values"] (defScope s_greatest) := ⟨rfl, rfl, rfl, by decide +kernel, rfl, by decide +kernel, by decide +kernel⟩
abbrev s_start : Stmt := topS 19
theorem sc_start : FnScope ["_law_script", "_law_cell"] ["_law_script"] (defScope s_start) := ⟨rfl, rfl, rfl, by decide +kernel, rfl, by decide +kernel, by decide +kernel⟩
abbrev s_draw : Stmt := topS 20
theorem sc_draw : FnScope ["_law_state", "_law_size", "_law_digit", "_law_cell", "_law_one"] ["_law_state", "_law_size"] (defScope s_draw) := ⟨rfl, rfl, rfl, by decide +kernel, rfl, by decide +kernel, by decide +kernel⟩
abbrev s_low : Stmt := topS 21
theorem sc_low : FnScope ["_law_up", "_law_down", "_law_a", "_law_b"] ["_law_up", "_law_down"] (defScope s_low) := ⟨rfl, rfl, rfl, by decide +kernel, rfl, by decide +kernel, by decide +kernel⟩
abbrev s_less : Stmt := topS 24
theorem sc_less : FnScope ["_law_one", "_law_two"] ["_law_one", "_law_two"] (defScope s_less) := ⟨rfl, rfl, rfl, by decide +kernel, rfl, by decide +kernel, by decide +kernel⟩
abbrev s_is : Stmt := topS 25
theorem sc_is : FnScope ["_law_actual", "_law_pair"] ["_law_actual", "_law_pair"] (defScope s_is) := ⟨rfl, rfl, rfl, by decide +kernel, rfl, by decide +kernel, by decide +kernel⟩
abbrev s_value : Stmt := topS 26
theorem sc_value : FnScope ["_law_state", "_law_pair", "_law_factor"] ["_law_state", "_law_pair"] (defScope s_value) := ⟨rfl, rfl, rfl, by decide +kernel, rfl, by decide +kernel, by decide +kernel⟩
abbrev s_refused : Stmt := topS 27
theorem sc_refused : FnScope ["_law_count", "_law_given", "e"] [] (defScope s_refused) := ⟨rfl, rfl, rfl, by decide +kernel, rfl, by decide +kernel, by decide +kernel⟩
abbrev s_extreme : Stmt := topS 28
theorem sc_extreme : FnScope ["_law_pairs", "_law_turn", "_law_found", "_law_pair"] ["_law_pairs", "_law_turn"] (defScope s_extreme) := ⟨rfl, rfl, rfl, by decide +kernel, rfl, by decide +kernel, by decide +kernel⟩
abbrev s_right : Stmt := topS 29
theorem sc_right : FnScope ["_law_given", "_law_pairs"] ["_law_given", "_law_pairs"] (defScope s_right) := ⟨rfl, rfl, rfl, by decide +kernel, rfl, by decide +kernel, by decide +kernel⟩
abbrev s_law : Stmt := topS 30
theorem sc_law : FnScope ["_law_script", "_law_state", "_law_scale", "_law_most", "_law_pairs", "_law_k", "_law_pair", "_law_given", "_law_passed"] ["_law_script"] (defScope s_law) := ⟨rfl, rfl, rfl, by decide +kernel, rfl, by decide +kernel, by decide +kernel⟩
abbrev s_BadCount_init : Stmt := inClass (topS 4) 0
theorem sc_BadCount_init : FnScope ["self", "count"] ["self", "count"] (defScope s_BadCount_init) := ⟨rfl, rfl, rfl, by decide +kernel, rfl, by decide +kernel, by decide +kernel⟩
abbrev s_Ratio_init : Stmt := inClass (topS 12) 0
theorem sc_Ratio_init : FnScope ["self", "top", "bottom", "common"] ["self", "top", "bottom"] (defScope s_Ratio_init) := ⟨rfl, rfl, rfl, by decide +kernel, rfl, by decide +kernel, by decide +kernel⟩
abbrev s_Ratio_top : Stmt := inClass (topS 12) 2
theorem sc_Ratio_top : FnScope ["self"] ["self"] (defScope s_Ratio_top) := ⟨rfl, rfl, rfl, by decide +kernel, rfl, by decide +kernel, by decide +kernel⟩
abbrev s_Ratio_bottom : Stmt := inClass (topS 12) 3
theorem sc_Ratio_bottom : FnScope ["self"] ["self"] (defScope s_Ratio_bottom) := ⟨rfl, rfl, rfl, by decide +kernel, rfl, by decide +kernel, by decide +kernel⟩
abbrev s_Ratio_below : Stmt := inClass (topS 12) 6
theorem sc_Ratio_below : FnScope ["self", "value", "other"] ["self", "value"] (defScope s_Ratio_below) := ⟨rfl, rfl, rfl, by decide +kernel, rfl, by decide +kernel, by decide +kernel⟩
abbrev s_Ratio_neg : Stmt := inClass (topS 12) 7
theorem sc_Ratio_neg : FnScope ["self"] ["self"] (defScope s_Ratio_neg) := ⟨rfl, rfl, rfl, by decide +kernel, rfl, by decide +kernel, by decide +kernel⟩
/-- what the top has written -/
structure Txt (K : PySem.W.Frag) (mg : Str → Option Value) where
  f_BadCount : Addr
  m_BadCount : mg "BadCount" = some (.ref f_BadCount)
  f_Ratio : Addr
  m_Ratio : mg "Ratio" = some (.ref f_Ratio)
  cl_Ratio : Cls K f_Ratio
  ic_Ratio : C8.InsC K f_Ratio
  na_Ratio_top : NoAttr K f_Ratio "_top"
  na_Ratio_bottom : NoAttr K f_Ratio "_bottom"
  ki_Ratio_int : PySem.W.kitOne K (.type "int") (.ref f_Ratio) = some false
  f_ExtralinkError : Addr
  m_ExtralinkError : mg "ExtralinkError" = some (.ref f_ExtralinkError)
  f_as_ratio : Addr
  d_as_ratio : FuncData
  F_as_ratio : Fun K "as_ratio" "as_ratio" s_as_ratio f_as_ratio d_as_ratio
  b_as_ratio : Binds K d_as_ratio ["value"] []
  m_as_ratio : mg "as_ratio" = some (.ref f_as_ratio)
  f_least : Addr
  d_least : FuncData
  F_least : Fun K "least" "least" s_least f_least d_least
  b_least : Binds K d_least ["values"] []
  m_least : mg "least" = some (.ref f_least)
  f_greatest : Addr
  d_greatest : FuncData
  F_greatest : Fun K "greatest" "greatest" s_greatest f_greatest d_greatest
  b_greatest : Binds K d_greatest ["values"] []
  m_greatest : mg "greatest" = some (.ref f_greatest)
  f_start : Addr
  d_start : FuncData
  F_start : Fun K "_law_start" "_law_start" s_start f_start d_start
  b_start : Binds K d_start ["_law_script"] []
  m_start : mg "_law_start" = some (.ref f_start)
  f_draw : Addr
  d_draw : FuncData
  F_draw : Fun K "_law_draw" "_law_draw" s_draw f_draw d_draw
  b_draw : Binds K d_draw ["_law_state", "_law_size"] []
  m_draw : mg "_law_draw" = some (.ref f_draw)
  f_low : Addr
  d_low : FuncData
  F_low : Fun K "_law_low" "_law_low" s_low f_low d_low
  b_low : Binds K d_low ["_law_up", "_law_down"] []
  m_low : mg "_law_low" = some (.ref f_low)
  f_less : Addr
  d_less : FuncData
  F_less : Fun K "_law_less" "_law_less" s_less f_less d_less
  b_less : Binds K d_less ["_law_one", "_law_two"] []
  m_less : mg "_law_less" = some (.ref f_less)
  f_is : Addr
  d_is : FuncData
  F_is : Fun K "_law_is" "_law_is" s_is f_is d_is
  b_is : Binds K d_is ["_law_actual", "_law_pair"] []
  m_is : mg "_law_is" = some (.ref f_is)
  f_value : Addr
  d_value : FuncData
  F_value : Fun K "_law_value" "_law_value" s_value f_value d_value
  b_value : Binds K d_value ["_law_state", "_law_pair"] []
  m_value : mg "_law_value" = some (.ref f_value)
  f_refused : Addr
  d_refused : FuncData
  F_refused : Fun K "_law_refused" "_law_refused" s_refused f_refused d_refused
  b_refused : Binds K d_refused [] []
  m_refused : mg "_law_refused" = some (.ref f_refused)
  f_extreme : Addr
  d_extreme : FuncData
  F_extreme : Fun K "_law_extreme" "_law_extreme" s_extreme f_extreme d_extreme
  b_extreme : Binds K d_extreme ["_law_pairs", "_law_turn"] []
  m_extreme : mg "_law_extreme" = some (.ref f_extreme)
  f_right : Addr
  d_right : FuncData
  F_right : Fun K "_law_right" "_law_right" s_right f_right d_right
  b_right : Binds K d_right ["_law_given", "_law_pairs"] []
  m_right : mg "_law_right" = some (.ref f_right)
  f_BadCount_init : Addr
  d_BadCount_init : FuncData
  F_BadCount_init : Fun K "__init__" "BadCount.__init__" s_BadCount_init f_BadCount_init d_BadCount_init
  b_BadCount_init : Binds K d_BadCount_init ["self", "count"] []
  a_BadCount_init : PySem.W.findIn K (.ref f_BadCount) "__init__" = some (some (.ref f_BadCount_init))
  i_BadCount_init : PySem.W.isFn K (.ref f_BadCount_init) = true
  f_Ratio_init : Addr
  d_Ratio_init : FuncData
  F_Ratio_init : FunD K "__init__" "Ratio.__init__" (defArgs s_Ratio_init) (defBody s_Ratio_init) (defScope s_Ratio_init) [V.int 1] [] f_Ratio_init d_Ratio_init
  a_Ratio_init : PySem.W.findIn K (.ref f_Ratio) "__init__" = some (some (.ref f_Ratio_init))
  i_Ratio_init : PySem.W.isFn K (.ref f_Ratio_init) = true
  mk_Ratio : Mk K f_Ratio f_Ratio_init
  f_Ratio_top : Addr
  d_Ratio_top : FuncData
  F_Ratio_top : Fun K "top" "Ratio.top" s_Ratio_top f_Ratio_top d_Ratio_top
  b_Ratio_top : Binds K d_Ratio_top ["self"] []
  p0_Ratio_top : Addr
  p_Ratio_top : PropOf K f_Ratio "top" p0_Ratio_top f_Ratio_top
  f_Ratio_bottom : Addr
  d_Ratio_bottom : FuncData
  F_Ratio_bottom : Fun K "bottom" "Ratio.bottom" s_Ratio_bottom f_Ratio_bottom d_Ratio_bottom
  b_Ratio_bottom : Binds K d_Ratio_bottom ["self"] []
  p0_Ratio_bottom : Addr
  p_Ratio_bottom : PropOf K f_Ratio "bottom" p0_Ratio_bottom f_Ratio_bottom
  f_Ratio_below : Addr
  d_Ratio_below : FuncData
  F_Ratio_below : Fun K "below" "Ratio.below" s_Ratio_below f_Ratio_below d_Ratio_below
  b_Ratio_below : Binds K d_Ratio_below ["self", "value"] []
  a_Ratio_below : PySem.W.findIn K (.ref f_Ratio) "below" = some (some (.ref f_Ratio_below))
  i_Ratio_below : PySem.W.isFn K (.ref f_Ratio_below) = true
  f_Ratio_neg : Addr
  d_Ratio_neg : FuncData
  F_Ratio_neg : Fun K "__neg__" "Ratio.__neg__" s_Ratio_neg f_Ratio_neg d_Ratio_neg
  b_Ratio_neg : Binds K d_Ratio_neg ["self"] []
  a_Ratio_neg : PySem.W.findIn K (.ref f_Ratio) "__neg__" = some (some (.ref f_Ratio_neg))
  i_Ratio_neg : PySem.W.isFn K (.ref f_Ratio_neg) = true
  me_Ratio_below : Meth K f_Ratio "below" f_Ratio_below
  e1_Ratio_init : List Value
  v1_Ratio_init : Vals [V.int 1] e1_Ratio_init
  b1_Ratio_init : Binds K d_Ratio_init ["self", "top", "bottom"] e1_Ratio_init
  e2_Ratio_init : List Value
  v2_Ratio_init : Vals [] e2_Ratio_init
  b2_Ratio_init : Binds K d_Ratio_init ["self", "top", "bottom"] e2_Ratio_init
  ox_BadCount : OexC K f_BadCount
  ix_BadCount : PySem.W.findIn K (.ref f_BadCount) "__init__" = some (some (.ref f_BadCount_init))
  tx_BadCount : PySem.W.typeIn K (.ref f_BadCount_init) = some (.type "function")
  xf_BadCount : XfC K f_BadCount
  ec_BadCount : ExcC K f_BadCount
  no_BadCount_count : PySem.W.findIn K (.ref f_BadCount) "count" = some none
  es_BadCount_BadCount : PySem.W.subIn K (.ref f_BadCount) (.ref f_BadCount) = some true
  xi_BadCount_BadCount : PySem.W.isClsIn K f_BadCount = true
  xt_BadCount_BadCount : PySem.W.typeIn K (.ref f_BadCount) = some (.type "type")
  es_BadCount_ExtralinkError : PySem.W.subIn K (.ref f_BadCount) (.ref f_ExtralinkError) = some true
  neq_BadCount_ExtralinkError : Value.ref f_BadCount ≠ Value.ref f_ExtralinkError
  xi_BadCount_ExtralinkError : PySem.W.isClsIn K f_ExtralinkError = true
  xt_BadCount_ExtralinkError : PySem.W.typeIn K (.ref f_ExtralinkError) = some (.type "type")
  kb_greatest_0_values : KBinds K d_greatest ["values"] ["values"] kAll kAll
  kb_least_0_values : KBinds K d_least ["values"] ["values"] kAll kAll
  g_gcd : mg "gcd" = some (.builtin "math.gcd")
  n_abs : mg "abs" = none
  n_int : mg "int" = none
  n_isinstance : mg "isinstance" = none
  n_len : mg "len" = none
  n_list : mg "list" = none
  n_range : mg "range" = none
  n_tuple : mg "tuple" = none
/-! ### the law's own draws: a list of great numbers, a list of cells, a count -/
section
variable {P : Program} {w : World} {K : PySem.W.Frag} {mg : Str → Option Value} {base : Heap}
/-- the state's objects as they stand; G is what else is known, the state is none of it -/
structure DS (G H : Hp) (s b c : Addr) (gs cs : List Int) (n : Nat) : Prop where
  same : Same G H
  fs : G s = none
  fb : G b = none
  fc : G c = none
  hs : H s = some (.lst [.ref b, .ref c, .int (n : Int)])
  hb : H b = some (.lst (gs.map V.int))
  hc : H c = some (.lst (cs.map V.int))
  ne : b ≠ c
  pos : 0 < cs.length
theorem DS.sb {G H : Hp} {s b c : Addr} {gs cs : List Int} {n : Nat} (d : DS G H s b c gs cs n) : s ≠ b := ne_of d.hs d.hb (by cases gs <;> simp)
theorem DS.sc {G H : Hp} {s b c : Addr} {gs cs : List Int} {n : Nat} (d : DS G H s b c gs cs n) : s ≠ c := ne_of d.hs d.hc (by cases cs <;> simp)
/-- at most m draws were made -/
def DSt (G H : Hp) (s : Addr) (m : Nat) : Prop := ∃ (b c : Addr) (gs cs : List Int) (n : Nat), DS G H s b c gs cs n ∧ n ≤ m
theorem DSt.same {G H : Hp} {s : Addr} {m : Nat} (d : DSt G H s m) : Same G H := let ⟨_, _, _, _, _, d, _⟩ := d; d.same
theorem DSt.mono {G H : Hp} {s : Addr} {m m' : Nat} (d : DSt G H s m) (h : m ≤ m') : DSt G H s m' := let ⟨b, c, gs, cs, n, d, hn⟩ := d; ⟨b, c, gs, cs, n, d, Nat.le_trans hn h⟩
/-- a new object comes beside, known from then on -/
theorem DSt.new {G H : Hp} {s : Addr} {m : Nat} {p : Addr} {o : HO} (d : DSt G H s m) (hp : H p = none) : DSt (upd G p o) (upd H p o) s m := by
  obtain ⟨b, c, gs, cs, n, d, hn⟩ := d
  have n1 : s ≠ p := ne_of_none d.hs hp
  have n2 : b ≠ p := ne_of_none d.hb hp
  have n3 : c ≠ p := ne_of_none d.hc hp
  refine ⟨b, c, gs, cs, n, ⟨fun a u e => ?_, ?_, ?_, ?_, ?_, ?_, ?_, d.ne, d.pos⟩, hn⟩
  · by_cases ha : a = p
    · subst ha; rw [upd_same] at e ⊢; exact e
    · rw [upd_ne ha] at e ⊢; exact d.same a u e
  · rw [upd_ne n1]; exact d.fs
  · rw [upd_ne n2]; exact d.fb
  · rw [upd_ne n3]; exact d.fc
  · rw [upd_ne n1]; exact d.hs
  · rw [upd_ne n2]; exact d.hb
  · rw [upd_ne n3]; exact d.hc
/-- a known object changes -/
theorem DSt.put {G H : Hp} {s : Addr} {m : Nat} {p : Addr} {o u : HO} (d : DSt G H s m) (hp : G p = some u) : DSt (upd G p o) (upd H p o) s m := by
  obtain ⟨b, c, gs, cs, n, d, hn⟩ := d
  have n1 : s ≠ p := fun e => by rw [← e, d.fs] at hp; cases hp
  have n2 : b ≠ p := fun e => by rw [← e, d.fb] at hp; cases hp
  have n3 : c ≠ p := fun e => by rw [← e, d.fc] at hp; cases hp
  refine ⟨b, c, gs, cs, n, ⟨fun a v e => ?_, ?_, ?_, ?_, ?_, ?_, ?_, d.ne, d.pos⟩, hn⟩
  · by_cases ha : a = p
    · subst ha; rw [upd_same] at e ⊢; exact e
    · rw [upd_ne ha] at e ⊢; exact d.same a v e
  · rw [upd_ne n1]; exact d.fs
  · rw [upd_ne n2]; exact d.fb
  · rw [upd_ne n3]; exact d.fc
  · rw [upd_ne n1]; exact d.hs
  · rw [upd_ne n2]; exact d.hb
  · rw [upd_ne n3]; exact d.hc
/-- what else is known of the heap may be less, the rest may be more -/
theorem DSt.less {G G' H : Hp} {s : Addr} {m : Nat} (d : DSt G H s m) (h : Same G' G) : DSt G' H s m := by
  obtain ⟨b, c, gs, cs, n, d, hn⟩ := d
  have fr : ∀ a, G a = none → G' a = none := fun a e => h.free e
  exact ⟨b, c, gs, cs, n, ⟨h.trans d.same, fr _ d.fs, fr _ d.fb, fr _ d.fc, d.hs, d.hb, d.hc, d.ne, d.pos⟩, hn⟩
/-- all that stands behind stays; known is what was known -/
theorem DSt.on {G H H' : Hp} {s : Addr} {m : Nat} (d : DSt G H s m) (h : Same H H') : DSt G H' s m := by
  obtain ⟨b, c, gs, cs, n, d, hn⟩ := d
  exact ⟨b, c, gs, cs, n, ⟨d.same.trans h, d.fs, d.fb, d.fc, h _ _ d.hs, h _ _ d.hb, h _ _ d.hc, d.ne, d.pos⟩, hn⟩
theorem DSt.free {G H : Hp} {s : Addr} {m : Nat} {p : Addr} (d : DSt G H s m) (hp : H p = none) : G p = none := d.same.free hp

def spStart (K : PySem.W.Frag) : Sp := fun vs H Q _ => ∃ (a : Addr) (ns : List Int), vs = [.ref a] ∧ SqL K H a (ns.map V.int) ∧ ns.length ≤ 63 ∧ ∀ (s : Addr) (H' : Hp), DSt H H' s 0 → Q (.ref s) H'
def spDraw : Sp := fun vs H Q _ => ∃ (G : Hp) (s : Addr) (m : Nat) (sz : Int), vs = [.ref s, .int sz] ∧ DSt G H s m ∧ m < 1000000 ∧ 0 < sz ∧ sz < 2 ^ 200 ∧
  ∀ (r : Int) (H' : Hp), 0 ≤ r → r < sz → DSt G H' s (m + 1) → Q (.int r) H'

theorem take_more {α : Type} : ∀ {l : List α} {i : Nat} {x : α}, l[i]? = some x → l.take (i + 1) = l.take i ++ [x]
  | [], i, x, h => by simp at h
  | a :: l, 0, x, h => by
    have e : a = x := Option.some.inj h
    subst e
    rfl
  | a :: l, i + 1, x, h => by
    have ih := take_more (l := l) (i := i) (x := x) h
    show a :: l.take (i + 1) = a :: l.take i ++ [x]
    rw [ih]
    rfl
theorem pow_lt (c n : Int) (hc : 0 ≤ c) (hc2 : c < 2147483647) (hn : 0 ≤ n) (hn2 : n ≤ 1000001) : (c * 48271 + n * 69621 + 7).natAbs < 2 ^ 64 := by omega
theorem pow_lt2 (c n : Int) (hc : 0 ≤ c) (hc2 : c < 2147483647) (hn : 0 ≤ n) (hn2 : n ≤ 1000001) : (c * 16807 + n * 40692 + 13).natAbs < 2 ^ 64 := by omega

theorem cut1 (xs : List V) : cutV xs (some 1) none = xs.drop 1 := by
  unfold cutV
  rw [show HT.sIx xs.length 0 (some 1) = min 1 xs.length from HT.sIx_nat xs.length 0 1, HT.sIx_none]
  cases xs with
  | nil => rfl
  | cons x r =>
    rw [show min 1 (x :: r).length = 1 by
      rw [List.length_cons]
      omega]
    show (List.take ((x :: r).length - 1) r) = r
    rw [List.length_cons, Nat.add_sub_cancel]
    exact List.take_length
theorem big1 : (0 : Int) < 2147483647 := by decide
theorem big2 : (0 : Int) < 2147483629 := by decide
theorem ok_start (T : Txt K mg) : FnOk P w K mg base CX0 1 T.f_start T.d_start ["_law_script"] (spStart K) := by
  refine T.F_start.ok sc_start (fun vs H Q E h => ?_) (fun cdv A outer s H vs Q E hr h => ?_)
  · obtain ⟨a, ns, rfl, _⟩ := h
    rfl
  · obtain ⟨a, ns, rfl, hS, hlen, k⟩ := h
    refine ⟨_, (pss_one (ps_ret (pe_lst (pa_cons (pe_lc (own := [("_law_cell", 1)]) (g := gName 1) rfl sc_start.nd (pi_list (pv 0)) (blkOk_by (N := ["_law_script", "_law_cell"]) (sc := defScope s_start) (by decide +kernel)) (fun _ _ _ _ _ => pg_name (i := 1) sc_start.nd rfl (Or.inl rfl)) (fun _ _ _ _ _ => pts_one (pt_cmpR op_ge (pe_callB call_abs (by rfl) T.n_abs (by decide +kernel) (pa_cons (pv 1) pa_nil)) (pe_op op_pow pe_int pe_int) (nomark _))) (fun _ _ _ _ _ => (pe_callB call_abs (by rfl) T.n_abs (by decide +kernel) (pa_cons (pv 1) pa_nil)))) (pa_cons (pe_op op_cat (pe_callTy call_list_of (by rfl) T.n_list (by decide +kernel) (pa_cons (pv 0) pa_nil)) (pe_lst (pa_cons pe_int pa_nil))) (pa_cons pe_int pa_nil)))))), ?_⟩
    refine ⟨_, rfl, a, rfl, ⟨_, hS⟩, fun D hD => ?_⟩
    refine lc_list (K := K) (a := a) (xs := ns.map V.int) (fun i H1 => ∃ gs : List Int, gs.length ≤ i ∧ H1 D = some (.lst (gs.map V.int)) ∧ Same H H1) ⟨[], Nat.le_refl _, upd_same, same_upd hD⟩ (fun i H1 _ ⟨_, _, _, sm⟩ => sm.seq hS) ?_ ?_
    · intro i x H1 hi ⟨gs, hg, eD, sm⟩
      obtain ⟨z, rfl⟩ : ∃ z, x = V.int z := by
        rw [List.getElem?_map] at hi
        cases e : ns[i]? with
        | none =>
          rw [e] at hi
          cases hi
        | some z =>
          rw [e] at hi
          exact ⟨z, (Option.some.inj hi).symm⟩
      have hi63 : i < 63 := by
        have := (List.getElem?_eq_some_iff.mp hi).1
        rw [List.length_map] at this
        omega
      refine ⟨rfl, _, rfl, z, rfl, 10, 18, rfl, rfl, ⟨by decide, by decide, by decide⟩, _, _, rfl, rfl, _, rfl, ?_⟩
      refine ite2 (fun _ => ?_) fun _ => ?_
      · refine ⟨_, rfl, z, rfl, gs.map V.int, eD, small1000 (by rw [List.length_map]; omega), gs ++ [if z < 0 then -z else z], by rw [List.length_append]; exact Nat.add_le_add_right hg 1, ?_, same_mut sm hD⟩
        rw [upd_same, List.map_append]
        rfl
      · exact ⟨gs, Nat.le_succ_of_le hg, eD, sm⟩
    · intro H1 ⟨gs, hg, eD, sm⟩
      refine ⟨_, rfl, a, _, rfl, .inl (sm.seq hS), fun l hl => ?_⟩
      refine ⟨by show 1 ≤ sizeLine; decide, fun o ho => ?_⟩
      have nlo : l ≠ o := fun e => by
        rw [← e, upd_same] at ho
        cases ho
      refine ⟨l, o, _, _, rfl, rfl, by rw [upd_ne nlo]; exact upd_same, upd_same, Nat.le_of_lt (small1000 ?_), fun c hc => ?_⟩
      · rw [List.length_map]
        show ns.length + 1 ≤ 1000
        omega
      refine ⟨by show 3 ≤ sizeLine; decide, fun st hst => ?_⟩
      have eDo : (upd (upd H1 l (.lst (ns.map V.int))) o (.lst [V.int 5])) D = some (.lst (gs.map V.int)) := same_upd ho _ _ (same_upd hl _ _ eD)
      have nDc : D ≠ c := ne_of_none eDo hc
      have hcs := hst
      have ncst : c ≠ st := fun e => by
        rw [← e, upd_same] at hst
        cases hst
      have nDst : D ≠ st := ne_of_none (same_upd hc _ _ eDo) hst
      have sm4 : Same H (upd (upd (upd H1 l (.lst (ns.map V.int))) o (.lst [V.int 5])) c (.lst (ns.map V.int ++ [V.int 5]))) := ((sm.trans (same_upd hl)).trans (same_upd ho)).trans (same_upd hc)
      refine k st _ ⟨D, c, gs, ns ++ [5], 0, ⟨sm4.trans (same_upd hst), sm4.free hst, hD, ((sm.trans (same_upd hl)).trans (same_upd ho)).free hc, upd_same, ?_, ?_, nDc, by rw [List.length_append]; exact Nat.succ_pos _⟩, Nat.le_refl _⟩
      · rw [upd_ne nDst]
        exact same_upd hc _ _ eDo
      · rw [upd_ne ncst, upd_same, List.map_append]
        rfl

theorem ok_draw (T : Txt K mg) : FnOk P w K mg base CX0 1 T.f_draw T.d_draw ["_law_state", "_law_size"] spDraw := by
  refine T.F_draw.ok sc_draw (fun vs H Q E h => ?_) (fun cdv A outer s H vs Q E hr h => ?_)
  · obtain ⟨G, a, m, sz, rfl, _⟩ := h
    rfl
  · obtain ⟨G, a, m, sz, rfl, ⟨b0, c, gs0, cs, n, d0, hn⟩, hm, hs0, hs2, k⟩ := h
    refine ⟨_, (pss_cons (ps_augS (pv 0) pe_int get_list pe_int ip_add set_list)
    (C8.pss_cut (ps_while PassesOwn.never (PW.pt (pw_and (pt_cmpR (op_neD hr.units) (pe_ix ix_list (pv 0) pe_int (fun _ _ => rfl)) (pe_lst pa_nil) (nomark _)) (pw_and1 (pt_cmpR op_eq (pe_ix ix_list (pe_ix ix_list (pv 0) pe_int (fun _ _ => rfl)) pe_int (fun _ _ => rfl)) pe_int (nomark _)))))
      (pss_one (ps_asg (pe_slice sl_list (pe_ix ix_list (pv 0) pe_int (fun _ _ => rfl)) (po_some pe_int) po_none) (pg_sub (pv 0) pe_int set_list))))
    (pss_cons (ps_if (pt_cmpR (op_neD hr.units) (pe_ix ix_list (pv 0) pe_int (fun _ _ => rfl)) (pe_lst pa_nil) (nomark _))
      (pss_cons (ps_set (i := 2) sc_draw.nd rfl (Or.inl rfl) (pe_op op_mod (pe_callTy call_int1 (by rfl) T.n_int (by decide +kernel) (pa_cons (pe_ix ix_list (pe_ix ix_list (pv 0) pe_int (fun _ _ => rfl)) pe_int (fun _ _ => rfl)) pa_nil)) (pv 1)))
    (pss_cons (ps_asg (pe_op op_fdivW (pe_ix ix_list (pe_ix ix_list (pv 0) pe_int (fun _ _ => rfl)) pe_int (fun _ _ => rfl)) (pv 1)) (pg_sub (pe_ix ix_list (pv 0) pe_int (fun _ _ => rfl)) pe_int set_list))
    (pss_one (ps_ret (pv 2)))))
      pss_nil)
    (pss_cons (ps_set (i := 3) sc_draw.nd rfl (Or.inl rfl) (pe_op op_mod (pe_callTy call_int1 (by rfl) T.n_int (by decide +kernel) (pa_cons (pe_ix ix_list (pe_ix ix_list (pv 0) pe_int (fun _ _ => rfl)) (pe_op op_mod (pe_callTy call_int1 (by rfl) T.n_int (by decide +kernel) (pa_cons (pe_ix ix_list (pv 0) pe_int (fun _ _ => rfl)) pa_nil)) (pe_callB call_len_seq (by rfl) T.n_len (by decide +kernel) (pa_cons (pe_ix ix_list (pv 0) pe_int (fun _ _ => rfl)) pa_nil))) (fun _ _ => rfl)) pa_nil)) pe_int))
    (pss_cons (ps_set (i := 4) sc_draw.nd rfl (Or.inl rfl) (pe_op op_mod (pe_callTy call_int1 (by rfl) T.n_int (by decide +kernel) (pa_cons (pe_op op_pow (pe_op op_add (pe_op op_add (pe_op op_mul (pv 3) pe_int) (pe_op op_mul (pe_ix ix_list (pv 0) pe_int (fun _ _ => rfl)) pe_int)) pe_int) pe_int) pa_nil)) pe_int))
    (pss_one (ps_ret (pe_op op_mod (pe_op op_mod (pe_callTy call_int1 (by rfl) T.n_int (by decide +kernel) (pa_cons (pe_op op_pow (pe_op op_add (pe_op op_add (pe_op op_mul (pv 4) pe_int) (pe_op op_mul (pe_ix ix_list (pv 0) pe_int (fun _ _ => rfl)) pe_int)) pe_int) pe_int) pa_nil)) pe_int) (pv 1))))))))), ?_⟩
    -- the count
    refine ⟨_, rfl, a, _, 2, _, rfl, rfl, SqL.of d0.hs, by decide, rfl, (n : Int), 1, rfl, rfl, a, _, 2, 2, rfl, rfl, d0.hs, rfl, ?_⟩
    have d1 : DS G (upd H a (.lst [V.ref b0, V.ref c, V.int ((n + 1 : Nat) : Int)])) a b0 c gs0 cs (n + 1) :=
      ⟨same_mut d0.same d0.fs, d0.fs, d0.fb, d0.fc, upd_same, by rw [upd_ne d0.sb.symm]; exact d0.hb, by rw [upd_ne d0.sc.symm]; exact d0.hc, d0.ne, d0.pos⟩
    -- the noughts ahead go
    refine ⟨fun σ H2 => σ = [some (.ref a), some (.int sz), none, none, none] ∧ ∃ (b : Addr) (gs : List Int), DS G H2 a b c gs cs (n + 1), ?_, ?_⟩
    · refine ⟨fun j σ H2 => σ = [some (.ref a), some (.int sz), none, none, none] ∧ ∃ (b : Addr) (gs : List Int), gs.length = j ∧ DS G H2 a b c gs cs (n + 1), ⟨_, rfl, b0, gs0, rfl, d1⟩, ?_⟩
      rintro j σ H2 ⟨rfl, b, gs, rfl, d⟩
      refine ⟨_, rfl, a, _, 0, _, rfl, rfl, SqL.of d.hs, rfl, Nat.zero_le _, fun p hp => ?_⟩
      have sp : Same H2 (upd H2 p (.lst [])) := same_upd hp
      have d2 : DS G (upd H2 p (.lst [])) a b c gs cs (n + 1) := ⟨d.same.trans sp, d.fs, d.fb, d.fc, sp _ _ d.hs, sp _ _ d.hb, sp _ _ d.hc, d.ne, d.pos⟩
      cases gs with
      | nil =>
        refine ⟨.list [], .list [], .lst (SqL.of d2.hb) .nil, .lst (SqL.of upd_same) .nil, shaped_ints [], shaped_ints [], false, by simp [PyData.eqv, PyData.eqvAll], iteF (iteF (⟨rfl, b, [], d2⟩))⟩
      | cons g r =>
        refine ⟨.list ((g :: r).map PyData.int), .list [], .lst (SqL.of d2.hb) (dp_ints _), .lst (SqL.of upd_same) .nil, shaped_ints _, shaped_ints [], true, by simp [PyData.eqv, PyData.eqvAll], iteT ?_⟩
        refine ⟨_, rfl, a, _, 0, _, rfl, rfl, SqL.of d2.hs, rfl, b, _, 0, .int g, rfl, rfl, SqL.of d2.hb, at0, rfl, _, rfl, ite2 (fun _ => ?_) fun _ => ⟨rfl, b, _, d2⟩⟩
        -- state[0] = state[0][1:]
        refine ⟨fun σ H3 => σ = [some (.ref a), some (.int sz), none, none, none] ∧ ∃ (b : Addr) (gs : List Int), gs.length = r.length ∧ DS G H3 a b c gs cs (n + 1), fun σ' H' h' => ⟨r.length, Nat.lt_succ_self _, h'⟩, ?_⟩
        refine ⟨_, rfl, a, _, 0, _, rfl, rfl, SqL.of d2.hs, rfl, 1, rfl, b, _, rfl, SqL.of d2.hb, fun q hq => ?_⟩
        have n1 : a ≠ q := ne_of_none d2.hs hq
        have n3 : c ≠ q := ne_of_none d2.hc hq
        refine ⟨_, rfl, a, _, 0, 0, rfl, rfl, by rw [upd_ne n1]; exact d2.hs, rfl, rfl, q, r, rfl, ?_⟩
        exact ⟨same_mut (d2.same.trans (same_upd hq)) d2.fs, d2.fs, d2.same.free hq, d2.fc, upd_same, by rw [upd_ne n1.symm, upd_same, cut1]; rfl, by rw [upd_ne d2.sc.symm, upd_ne n3]; exact d2.hc, n3.symm, d2.pos⟩
    · rintro σ H2 ⟨rfl, b, gs, d⟩
      refine ⟨_, rfl, a, _, 0, _, rfl, rfl, SqL.of d.hs, rfl, Nat.zero_le _, fun p hp => ?_⟩
      have sp : Same H2 (upd H2 p (.lst [])) := same_upd hp
      have d2 : DS G (upd H2 p (.lst [])) a b c gs cs (n + 1) := ⟨d.same.trans sp, d.fs, d.fb, d.fc, sp _ _ d.hs, sp _ _ d.hb, sp _ _ d.hc, d.ne, d.pos⟩
      cases gs with
      | cons g r =>
        refine ⟨.list ((g :: r).map PyData.int), .list [], .lst (SqL.of d2.hb) (dp_ints _), .lst (SqL.of upd_same) .nil, shaped_ints _, shaped_ints [], true, by simp [PyData.eqv, PyData.eqvAll], iteT ?_⟩
        refine ⟨_, rfl, a, _, 0, _, rfl, rfl, SqL.of d2.hs, rfl, b, _, 0, .int g, rfl, rfl, SqL.of d2.hb, at0, .inl ⟨g, rfl, ?_⟩⟩
        refine ⟨_, rfl, g, sz, rfl, rfl, hs0, ?_⟩
        refine ⟨_, rfl, a, _, 0, _, rfl, rfl, SqL.of d2.hs, rfl, b, _, 0, .int g, rfl, rfl, SqL.of d2.hb, at0, _, rfl, g, sz, rfl, rfl, wide_div (b := 200) hs0 (by omega) (by decide) (by decide), ?_⟩
        refine ⟨_, rfl, a, _, 0, _, rfl, rfl, SqL.of d2.hs, rfl, b, _, 0, 0, rfl, rfl, d2.hb, ix0 (Nat.succ_pos _), ?_⟩
        refine ⟨_, rfl, k _ _ (Int.emod_nonneg _ (by omega)) (Int.emod_lt_of_pos _ hs0) ⟨b, c, g / sz :: r, cs, n + 1, ?_, Nat.succ_le_succ hn⟩⟩
        exact ⟨same_mut d2.same d2.fb, d2.fs, d2.fb, d2.fc, by rw [upd_ne d2.sb]; exact d2.hs, upd_same, by rw [upd_ne d2.ne.symm]; exact d2.hc, d2.ne, d2.pos⟩
      | nil =>
        refine ⟨.list [], .list [], .lst (SqL.of d2.hb) .nil, .lst (SqL.of upd_same) .nil, shaped_ints [], shaped_ints [], false, by simp [PyData.eqv, PyData.eqvAll], iteF ?_⟩
        have hl : (0 : Int) < (cs.length : Int) := by have := d.pos; omega
        have i0 : 0 ≤ ((n + 1 : Nat) : Int) % (cs.length : Int) := Int.emod_nonneg _ (by omega)
        have i1 : ((n + 1 : Nat) : Int) % (cs.length : Int) < (cs.length : Int) := Int.emod_lt_of_pos _ hl
        obtain ⟨j, ej⟩ : ∃ j : Nat, ((n + 1 : Nat) : Int) % (cs.length : Int) = (j : Int) := ⟨(((n + 1 : Nat) : Int) % (cs.length : Int)).toNat, by omega⟩
        have hj : j < cs.length := by omega
        refine ⟨_, rfl, a, _, 1, _, rfl, rfl, SqL.of d2.hs, rfl, _, rfl, a, _, 2, _, rfl, rfl, SqL.of d2.hs, rfl, .inl ⟨_, rfl, ?_⟩⟩
        refine ⟨_, rfl, a, _, 1, _, rfl, rfl, SqL.of d2.hs, rfl, c, _, rfl, .inl (SqL.of d2.hc), _, _, rfl, rfl, by rw [List.length_map]; exact hl, ?_⟩
        refine ⟨c, _, _, .int cs[j], rfl, rfl, SqL.of d2.hc, by rw [List.length_map]; exact at_of ej (by rw [List.getElem?_map, List.getElem?_eq_getElem hj]; rfl), .inl ⟨_, rfl, _, _, rfl, rfl, big1, ?_⟩⟩
        have c0 : 0 ≤ cs[j] % 2147483647 := Int.emod_nonneg _ (by decide)
        have c1 : cs[j] % 2147483647 < 2147483647 := Int.emod_lt_of_pos _ (by decide)
        refine ⟨_, rfl, _, _, rfl, rfl, .inr ⟨by decide, by decide⟩, _, rfl, a, _, 2, _, rfl, rfl, SqL.of d2.hs, rfl, _, _, rfl, rfl, .inr ⟨by decide, by decide⟩, _, _, rfl, rfl, _, _, rfl, rfl, _, _, rfl, rfl, ⟨by decide, by decide, pow_lt _ _ c0 c1 (by omega) (by omega)⟩, .inl ⟨_, rfl, _, _, rfl, rfl, big1, ?_⟩⟩
        have e0 : ∀ z : Int, 0 ≤ z % 2147483647 := fun z => Int.emod_nonneg _ (by decide)
        have e1 : ∀ z : Int, z % 2147483647 < 2147483647 := fun z => Int.emod_lt_of_pos _ (by decide)
        refine ⟨_, rfl, _, _, rfl, rfl, .inr ⟨by decide, by decide⟩, _, rfl, a, _, 2, _, rfl, rfl, SqL.of d2.hs, rfl, _, _, rfl, rfl, .inr ⟨by decide, by decide⟩, _, _, rfl, rfl, _, _, rfl, rfl, _, _, rfl, rfl, ⟨by decide, by decide, pow_lt2 _ _ (e0 _) (e1 _) (by omega) (by omega)⟩, .inl ⟨_, rfl, _, _, rfl, rfl, big2, ?_⟩⟩
        refine ⟨_, rfl, _, sz, rfl, rfl, hs0, ?_⟩
        exact k _ _ (Int.emod_nonneg _ (by omega)) (Int.emod_lt_of_pos _ hs0) ⟨b, c, [], cs, n + 1, d2, Nat.succ_le_succ hn⟩
end

/-! ### ratios -/
section
variable {P : Program} {w : World} {K : PySem.W.Frag} {mg : Str → Option Value} {base : Heap}
/-- a ratio's attributes -/
def rf (t b : Int) : List (Str × V) := [("_top", .int t), ("_bottom", .int b)]
theorem rf_top (t b : Int) : (rf t b).lookup ("_top" : Str) = some (.int t) := by simp [rf, List.lookup]
theorem nTB : (("_bottom" : Str) == ("_top" : Str)) = false := by decide +kernel
theorem nBT : (("_top" : Str) == ("_bottom" : Str)) = false := by decide +kernel
theorem rf_bottom (t b : Int) : (rf t b).lookup ("_bottom" : Str) = some (.int b) := by simp [rf, List.lookup, nTB]
def RatAt (C : Addr) (H : Hp) (p : Addr) (t b : Int) : Prop := ∃ dx, H p = some (.ins C dx (rf t b))
/-- the divisor -/
def dvs (t b : Int) : Int := if b < 0 then -((Nat.gcd t.natAbs b.natAbs : Nat) : Int) else ((Nat.gcd t.natAbs b.natAbs : Nat) : Int)
def lowT (t b : Int) : Int := t.fdiv (dvs t b)
def lowB (t b : Int) : Int := b.fdiv (dvs t b)
def BIG (z : Int) : Prop := z.natAbs < 2 ^ 8000
theorem dvs_ne {t b : Int} (h : b ≠ 0) : dvs t b ≠ 0 := by
  have hg : 0 < Nat.gcd t.natAbs b.natAbs := Nat.gcd_pos_of_pos_right _ (by omega)
  unfold dvs
  split <;> omega
theorem dvs_le {t b : Int} (h : b ≠ 0) : (dvs t b).natAbs ≤ b.natAbs := by
  have hg : Nat.gcd t.natAbs b.natAbs ≤ b.natAbs := Nat.le_of_dvd (by omega) (Nat.gcd_dvd_right _ _)
  unfold dvs
  split <;> omega
/-- Ratio(t, b), b not 0 -/
def spInit (C : Addr) : Sp := fun vs H Q _ => ∃ (p dx : Addr) (t b : Int), vs = [.ref p, .int t, .int b] ∧ H p = some (.ins C dx []) ∧ b ≠ 0 ∧ BIG b ∧ ∀ H', RatAt C H' p (lowT t b) (lowB t b) → (∀ a o, H a = some o → a ≠ p → H' a = some o) → Q .non H'
theorem ok_init (T : Txt K mg) : FnOk P w K mg base CX0 1 T.f_Ratio_init T.d_Ratio_init ["self", "top", "bottom"] (spInit T.f_Ratio) := by
  refine T.F_Ratio_init.ok sc_Ratio_init (fun vs H Q E h => ?_) (fun cdv A outer s H vs Q E hr h => ?_)
  · obtain ⟨p, dx, t, b, rfl, _⟩ := h
    rfl
  · obtain ⟨p, dx, t, b, rfl, hp, hb, hB, k⟩ := h
    refine ⟨_, PSs.nox (pss_cons (ps_if (pt_cmpR op_eq (pv 2) pe_int (nomark _))
      (pss_one ps_never)
      pss_nil)
    (pss_cons (ps_set (i := 3) sc_Ratio_init.nd rfl (Or.inl rfl) (pe_callBfun cr_gcd rfl T.g_gcd (pa_cons (pv 1) (pa_cons (pv 2) pa_nil))))
    (C8.pss_cut (ps_if (pt_cmpR op_lt (pv 2) pe_int (nomark _))
      (pss_one (ps_set (i := 3) sc_Ratio_init.nd rfl (Or.inl rfl) (pe_un un_neg (pv 3))))
      pss_nil)
    (pss_cons (ps_fld (pv 0) (pe_op op_fdivZ (pv 1) (pv 3)) rfl)
    (pss_one (ps_fld (pv 0) (pe_op op_fdivZ (pv 2) (pv 3)) rfl)))))), ?_⟩
    refine ⟨_, rfl, rfl, _, rfl, ite2 (fun h0 => ?_) fun _ => ?_⟩
    · have e : V.int b = V.int 0 := of_decide_eq_true h0
      injection e with e
      exact absurd e hb
    refine ⟨_, rfl, _, rfl, t, b, rfl, ?_⟩
    refine ⟨fun σ H' => σ = [some (.ref p), some (.int t), some (.int b), some (.int (dvs t b))] ∧ H' = H, ?_, ?_⟩
    · refine ⟨_, rfl, b, 0, rfl, rfl, _, rfl, ite2 (fun h0 => ?_) fun h0 => ?_⟩
      · have h0' : b < 0 := of_decide_eq_true h0
        refine ⟨_, rfl, _, rfl, ?_, rfl⟩
        unfold dvs
        rw [if_pos h0']
        rfl
      · have h0' : ¬ b < 0 := fun q => h0 (decide_eq_true q)
        refine ⟨?_, rfl⟩
        unfold dvs
        rw [if_neg h0']
        rfl
    · rintro σ H' ⟨rfl, rfl⟩
      have hz : CDivZ t (dvs t b) := cdivZ (dvs_ne hb) (Nat.lt_of_le_of_lt (dvs_le hb) hB)
      have hz2 : CDivZ b (dvs t b) := cdivZ (dvs_ne hb) (Nat.lt_of_le_of_lt (dvs_le hb) hB)
      refine ⟨_, rfl, _, rfl, t, _, rfl, rfl, hz, _, rfl, p, T.f_Ratio, dx, [], rfl, hp, T.cl_Ratio, T.na_Ratio_top, (by show 0 < 1000; decide), ?_⟩
      refine ⟨_, rfl, _, rfl, b, _, rfl, rfl, hz2, _, rfl, p, T.f_Ratio, dx, _, rfl, upd_same, T.cl_Ratio, T.na_Ratio_bottom, (by show 1 < 1000; decide), ?_⟩
      refine k _ ⟨dx, Eq.trans upd_same ?_⟩ fun a o e ha => by rw [upd_ne ha, upd_ne ha]; exact e
      show some (HO.ins T.f_Ratio dx (if ("_top" : Str) = "_bottom" then _ else _)) = _
      rw [if_neg (by decide +kernel)]
      rfl
/-- the properties -/
def spTop (C : Addr) : Sp := fun vs H Q _ => ∃ (p : Addr) (t b : Int), vs = [.ref p] ∧ RatAt C H p t b ∧ Q (.int t) H
def spBottom (C : Addr) : Sp := fun vs H Q _ => ∃ (p : Addr) (t b : Int), vs = [.ref p] ∧ RatAt C H p t b ∧ Q (.int b) H
def sgnI (t : Int) : Int := if t < 0 then -1 else if 0 < t then 1 else 0
def spSign (C : Addr) : Sp := fun vs H Q _ => ∃ (p : Addr) (t b : Int), vs = [.ref p] ∧ RatAt C H p t b ∧ Q (.int (sgnI t)) H
theorem ok_top (T : Txt K mg) : FnOk P w K mg base CX0 1 T.f_Ratio_top T.d_Ratio_top ["self"] (spTop T.f_Ratio) := by
  refine T.F_Ratio_top.ok sc_Ratio_top (fun vs H Q E h => ?_) (fun cdv A outer s H vs Q E hr h => ?_)
  · obtain ⟨p, t, b, rfl, _⟩ := h
    rfl
  · obtain ⟨p, t, b, rfl, ⟨dx, hp⟩, k⟩ := h
    refine ⟨_, (pss_one (ps_ret (pe_fld (pv 0) rfl))), ?_⟩
    exact ⟨_, rfl, p, T.f_Ratio, dx, _, _, rfl, hp, T.cl_Ratio, T.na_Ratio_top, rf_top _ _, k⟩
theorem ok_bottom (T : Txt K mg) : FnOk P w K mg base CX0 1 T.f_Ratio_bottom T.d_Ratio_bottom ["self"] (spBottom T.f_Ratio) := by
  refine T.F_Ratio_bottom.ok sc_Ratio_bottom (fun vs H Q E h => ?_) (fun cdv A outer s H vs Q E hr h => ?_)
  · obtain ⟨p, t, b, rfl, _⟩ := h
    rfl
  · obtain ⟨p, t, b, rfl, ⟨dx, hp⟩, k⟩ := h
    refine ⟨_, (pss_one (ps_ret (pe_fld (pv 0) rfl))), ?_⟩
    exact ⟨_, rfl, p, T.f_Ratio, dx, _, _, rfl, hp, T.cl_Ratio, T.na_Ratio_bottom, rf_bottom _ _, k⟩
end

/-! ### the functions on ratios -/
section
variable {P : Program} {w : World} {K : PySem.W.Frag} {mg : Str → Option Value} {base : Heap}
theorem made_rat {C : Addr} {H : Hp} {t b : Int} {Q : VK} {E : XK} (hb : b ≠ 0) (hB : BIG b) (k : ∀ x H', H x = none → Same H H' → RatAt C H' x (lowT t b) (lowB t b) → Q (.ref x) H') :
    ∀ x dx, H x = none → H dx = none → dx ≠ x → spInit C [.ref x, .int t, .int b] (upd (upd H dx (.own x)) x (.ins C dx [])) (fun v H2 => v = .non ∧ Q (.ref x) H2) E :=
  fun x dx nx nd _ => ⟨x, dx, t, b, rfl, upd_same, hb, hB, fun H' r st => ⟨rfl, k x H' nx (Same.made nx nd st) r⟩⟩
theorem low_one (t : Int) : lowT t 1 = t ∧ lowB t 1 = 1 := by
  have e : dvs t 1 = 1 := by
    unfold dvs
    rw [if_neg (by decide)]
    simp
  unfold lowT lowB
  rw [e]
  exact ⟨by rw [Int.fdiv_one], by decide⟩
theorem big_one : BIG 1 := by show (1 : Nat) < 2 ^ 8000; decide +kernel
theorem tyR {C : Addr} {H : Hp} {p : Addr} {t b : Int} (ic : C8.InsC K C) (r : RatAt C H p t b) : TyX K H (.ref p) (.ref C) := by
  obtain ⟨dx, hp⟩ := r
  exact .base (.ins hp ic.cl ic.ha ic.hn ic.htk ic.hm)
/-- as_ratio -/
def spAs (C : Addr) : Sp := fun vs H Q _ => (∃ t : Int, vs = [.int t] ∧ ∀ p H', H p = none → Same H H' → RatAt C H' p t 1 → Q (.ref p) H') ∨ (∃ (p : Addr) (t b : Int), vs = [.ref p] ∧ RatAt C H p t b ∧ Q (.ref p) H)
theorem ok_as (T : Txt K mg) : FnOk P w K mg base CX0 3 T.f_as_ratio T.d_as_ratio ["value"] (spAs T.f_Ratio) := by
  have G_Ratio_init : FnOk P w K mg base CX0 1 T.f_Ratio_init T.d_Ratio_init ["self", "top", "bottom"] (spInit T.f_Ratio) := ok_init T
  refine T.F_as_ratio.ok sc_as_ratio (fun vs H Q E h => ?_) (fun cdv A outer s H vs Q E hr h => ?_)
  · rcases h with ⟨t, rfl, _⟩ | ⟨p, t, b, rfl, _⟩ <;> rfl
  · refine ⟨_, (pss_cons (ps_if (pt_val (pe_callB call_isi (by rfl) T.n_isinstance (by decide +kernel) (pa_cons (pv 0) (pa_cons (pe_glob (v := .ref T.f_Ratio) rfl T.m_Ratio rfl) pa_nil))))
      (pss_one (ps_ret (pv 0)))
      pss_nil)
    (pss_one (ps_ret (pe_make T.mk_Ratio G_Ratio_init (hr.mono (by decide)) rfl T.m_Ratio T.b1_Ratio_init T.v1_Ratio_init pass0 (pa_cons (pv 0) pa_nil))))), ?_⟩
    rcases h with ⟨t, rfl, k⟩ | ⟨p, t, b, rfl, r, k⟩
    · refine ⟨_, rfl, .int t, .ref T.f_Ratio, .type "int", .ref T.f_Ratio, false, rfl, .own _, .base (.int _), T.ki_Ratio_int, false, rfl, iteF ?_⟩
      refine ⟨_, rfl, made_rat (by decide) big_one fun x H' nx sm r => ?_⟩
      rw [(low_one t).1, (low_one t).2] at r
      exact k x H' nx sm r
    · exact ⟨_, rfl, .ref p, .ref T.f_Ratio, .ref T.f_Ratio, .ref T.f_Ratio, true, rfl, .own _, tyR T.ic_Ratio r, kit_self, true, rfl, iteT ⟨_, rfl, k⟩⟩
theorem abs_of (n : Int) : (if n < 0 then -n else n) = ((n.natAbs : Nat) : Int) := by split <;> omega
end

section
variable {P : Program} {w : World} {K : PySem.W.Frag} {mg : Str → Option Value} {base : Heap}
/-- _law_low -/
def spLow : Sp := fun vs H Q _ => ∃ t b : Int, vs = [.int t, .int b] ∧ b ≠ 0 ∧ BIG b ∧ ∀ p H', H p = none → Same H H' → H' p = some (.tup [.int (lowT t b), .int (lowB t b)]) → Q (.ref p) H'
theorem ok_low (T : Txt K mg) : FnOk P w K mg base CX0 1 T.f_low T.d_low ["_law_up", "_law_down"] spLow := by
  refine T.F_low.ok sc_low (fun vs H Q E h => ?_) (fun cdv A outer s H vs Q E hr h => ?_)
  · obtain ⟨t, b, rfl, _⟩ := h
    rfl
  · obtain ⟨t, b, rfl, hb, hB, k⟩ := h
    refine ⟨_, (pss_cons (ps_set (i := 2) sc_low.nd rfl (Or.inl rfl) (pe_callB call_abs (by rfl) T.n_abs (by decide +kernel) (pa_cons (pv 0) pa_nil)))
    (pss_cons (ps_set (i := 3) sc_low.nd rfl (Or.inl rfl) (pe_callB call_abs (by rfl) T.n_abs (by decide +kernel) (pa_cons (pv 1) pa_nil)))
    (C8.pss_cut (ps_while PassesOwn.never (pt_cmpR op_ne (pv 3) pe_int (nomark _))
      (pss_one (ps_par (i := 2) (j := 3) (by rfl) sc_low.nd rfl rfl (by decide) rfl rfl (pa_cons (pv 3) (pa_cons (pe_op op_mod (pe_callTy call_int1 (by rfl) T.n_int (by decide +kernel) (pa_cons (pv 2) pa_nil)) (pv 3)) pa_nil)) (by rfl))))
    (C8.pss_cut (ps_if (pt_cmpR op_lt (pv 1) pe_int (nomark _))
      (pss_one (ps_set (i := 2) sc_low.nd rfl (Or.inl rfl) (pe_un un_neg (pv 2))))
      pss_nil)
    (pss_one (ps_ret (pe_tup (pa_cons (pe_op op_fdivZ (pv 0) (pv 2)) (pa_cons (pe_op op_fdivZ (pv 1) (pv 2)) pa_nil))))))))), ?_⟩
    refine ⟨_, rfl, t, rfl, ?_⟩
    rw [abs_of]
    refine ⟨_, rfl, b, rfl, ?_⟩
    rw [abs_of]
    refine ⟨fun σ H' => σ = [some (.int t), some (.int b), some (.int ((Nat.gcd t.natAbs b.natAbs : Nat) : Int)), some (.int 0)] ∧ H' = H, ?_, ?_⟩
    · refine ⟨fun m σ H' => ∃ x y : Nat, σ = [some (.int t), some (.int b), some (.int (x : Int)), some (.int (y : Int))] ∧ H' = H ∧ Nat.gcd x y = Nat.gcd t.natAbs b.natAbs ∧ y = m, ⟨_, _, _, rfl, rfl, rfl, rfl⟩, ?_⟩
      rintro m σ H' ⟨x, y, rfl, rfl, hg, rfl⟩
      refine ⟨_, rfl, rfl, _, rfl, ?_⟩
      by_cases hy : y = 0
      · subst hy
        refine iteF ⟨?_, rfl⟩
        rw [Nat.gcd_zero_right] at hg
        rw [hg]
        rfl
      · have ey : (!decide (V.int (y : Int) = V.int 0)) = true := by
          rw [Bool.not_eq_true', decide_eq_false_iff_not]
          intro q
          injection q with q
          omega
        rw [ey]
        refine iteT ⟨fun σ' H2 => ∃ x' y' : Nat, σ' = [some (.int t), some (.int b), some (.int (x' : Int)), some (.int (y' : Int))] ∧ H2 = H' ∧ Nat.gcd x' y' = Nat.gcd t.natAbs b.natAbs ∧ y' < y, fun σ' H2 ⟨x', y', e1, e2, e3, e4⟩ => ⟨y', e4, x', y', e1, e2, e3, rfl⟩, ?_⟩
        refine ⟨_, rfl, _, rfl, .inl ⟨_, rfl, _, rfl, (x : Int), (y : Int), rfl, rfl, (by show (0 : Int) < (y : Int); omega), _, _, rfl, y, x % y, ?_, rfl, ?_, Nat.mod_lt _ (by omega)⟩⟩
        · rfl
        · rw [← hg, Nat.gcd_comm x y, Nat.gcd_rec y x, Nat.gcd_comm]
    rintro σ H' ⟨rfl, rfl⟩
    refine ⟨fun σ H2 => σ = [some (.int t), some (.int b), some (.int (dvs t b)), some (.int 0)] ∧ H2 = H', ?_, ?_⟩
    · refine ⟨_, rfl, b, 0, rfl, rfl, _, rfl, ite2 (fun h0 => ?_) fun h0 => ?_⟩
      · refine ⟨_, rfl, _, rfl, ?_, rfl⟩
        unfold dvs
        rw [if_pos (of_decide_eq_true h0)]
        rfl
      · refine ⟨?_, rfl⟩
        unfold dvs
        rw [if_neg fun q => h0 (decide_eq_true q)]
    rintro σ H2 ⟨rfl, rfl⟩
    have hz : ∀ i : Int, CDivZ i (dvs t b) := fun i => cdivZ (dvs_ne hb) (Nat.lt_of_le_of_lt (dvs_le hb) hB)
    exact ⟨_, rfl, _, rfl, t, _, rfl, rfl, hz _, _, rfl, _, rfl, b, _, rfl, rfl, hz _, (by show 2 ≤ sizeLine; decide), fun p hp => k p _ hp (same_upd hp) upd_same⟩
end

section
variable {P : Program} {w : World} {K : PySem.W.Frag} {mg : Str → Option Value} {base : Heap}
def dat2 (t b : Int) : PyData := .tuple [.int t, .int b]
theorem dp2 {H : Hp} {q : Addr} {t b : Int} (h : H q = some (.tup [.int t, .int b])) : Dp K H (.ref q) (dat2 t b) := .tup (SqT.of h) (.cons (.int _) (.cons (.int _) .nil))
theorem sh2 (t b : Int) : SeqAt.shaped (dat2 t b) = true := by simp [dat2, SeqAt.shaped, PyData.canLay0, PyData.canLayAll0, PyData.depth, PyData.depthAll]
theorem eq2 (t b : Int) : PyData.eqv (dat2 t b) (dat2 t b) = true := by simp [dat2, PyData.eqv, PyData.eqvAll]
/-- _law_is, where it holds -/
def spIs (C : Addr) : Sp := fun vs H Q _ => ∃ (p q : Addr) (t b : Int), vs = [.ref p, .ref q] ∧ RatAt C H p t b ∧ H q = some (.tup [.int t, .int b]) ∧ ∀ H', Same H H' → Q (.bl true) H'
theorem ok_is (T : Txt K mg) : FnOk P w K mg base CX0 3 T.f_is T.d_is ["_law_actual", "_law_pair"] (spIs T.f_Ratio) := by
  have G_Ratio_top : FnOk P w K mg base CX0 1 T.f_Ratio_top T.d_Ratio_top ["self"] (spTop T.f_Ratio) := ok_top T
  have G_Ratio_bottom : FnOk P w K mg base CX0 1 T.f_Ratio_bottom T.d_Ratio_bottom ["self"] (spBottom T.f_Ratio) := ok_bottom T
  refine T.F_is.ok sc_is (fun vs H Q E h => ?_) (fun cdv A outer s H vs Q E hr h => ?_)
  · obtain ⟨p, q, t, b, rfl, _⟩ := h
    rfl
  · obtain ⟨p, q, t, b, rfl, r, hq, k⟩ := h
    obtain ⟨dx, hp⟩ := id r
    refine ⟨_, (pss_cons (ps_if (PW.pt (pw_or (pt_not (pt_val (pe_callB call_isi (by rfl) T.n_isinstance (by decide +kernel) (pa_cons (pv 0) (pa_cons (pe_glob (v := .ref T.f_Ratio) rfl T.m_Ratio rfl) pa_nil))))) (pw_or (pt_not (pt_val (pe_callB call_isi (by rfl) T.n_isinstance (by decide +kernel) (pa_cons (pe_prop (pv 0) T.cl_Ratio T.p_Ratio_top G_Ratio_top (hr.mono (by decide)) T.b_Ratio_top .nil pass0 rfl) (pa_cons (pe_bltn (v := .ty "int") (u := .type "int") (by rfl) T.n_int (by decide +kernel) rfl) pa_nil))))) (pw_or1 (pt_not (pt_val (pe_callB call_isi (by rfl) T.n_isinstance (by decide +kernel) (pa_cons (pe_prop (pv 0) T.cl_Ratio T.p_Ratio_bottom G_Ratio_bottom (hr.mono (by decide)) T.b_Ratio_bottom .nil pass0 rfl) (pa_cons (pe_bltn (v := .ty "int") (u := .type "int") (by rfl) T.n_int (by decide +kernel) rfl) pa_nil)))))))))
      (pss_one (ps_ret pe_bl))
      pss_nil)
    (pss_one (ps_ret (pe_cmpR (op_eqD hr.units) (pe_tup (pa_cons (pe_prop (pv 0) T.cl_Ratio T.p_Ratio_top G_Ratio_top (hr.mono (by decide)) T.b_Ratio_top .nil pass0 rfl) (pa_cons (pe_prop (pv 0) T.cl_Ratio T.p_Ratio_bottom G_Ratio_bottom (hr.mono (by decide)) T.b_Ratio_bottom .nil pass0 rfl) pa_nil))) (pv 1) (nomark _))))), ?_⟩
    refine ⟨_, rfl, .ref p, .ref T.f_Ratio, .ref T.f_Ratio, .ref T.f_Ratio, true, rfl, .own _, tyR T.ic_Ratio r, kit_self, true, rfl, iteF ?_⟩
    refine ⟨_, rfl, p, dx, _, rfl, hp, p, t, b, rfl, r, .int t, .ty "int", .type "int", .type "int", true, rfl, .ty _, .base (.int _), kit_ty (by decide +kernel), true, rfl, iteF ?_⟩
    refine ⟨_, rfl, p, dx, _, rfl, hp, p, t, b, rfl, r, .int b, .ty "int", .type "int", .type "int", true, rfl, .ty _, .base (.int _), kit_ty (by decide +kernel), true, rfl, iteF ?_⟩
    refine ⟨_, rfl, p, dx, _, rfl, hp, p, t, b, rfl, r, _, rfl, p, dx, _, rfl, hp, p, t, b, rfl, r, (by show 2 ≤ sizeLine; decide), fun o ho => ?_⟩
    refine ⟨_, rfl, dat2 t b, dat2 t b, dp2 upd_same, dp2 (same_upd ho _ _ hq), sh2 t b, sh2 t b, ?_⟩
    rw [eq2]
    exact k _ (same_upd ho)
end

/-! ### lowest terms -/
theorem dvs_abs (t b : Int) : (dvs t b).natAbs = Nat.gcd t.natAbs b.natAbs := by
  unfold dvs
  split <;> omega
theorem dvs_dvd_t (t b : Int) : dvs t b ∣ t := Int.natAbs_dvd_natAbs.mp (by rw [dvs_abs]; exact Nat.gcd_dvd_left _ _)
theorem dvs_dvd_b (t b : Int) : dvs t b ∣ b := Int.natAbs_dvd_natAbs.mp (by rw [dvs_abs]; exact Nat.gcd_dvd_right _ _)
theorem fdiv_mul {a d : Int} (h : d ∣ a) : a.fdiv d * d = a := by
  obtain ⟨c, rfl⟩ := h
  by_cases hd : d = 0
  · subst hd; simp
  · rw [Int.mul_comm d c, Int.mul_fdiv_cancel _ hd]
theorem lowT_mul (t b : Int) : lowT t b * dvs t b = t := fdiv_mul (dvs_dvd_t t b)
theorem lowB_mul (t b : Int) : lowB t b * dvs t b = b := fdiv_mul (dvs_dvd_b t b)
theorem lowT_le {t b : Int} (h : b ≠ 0) : (lowT t b).natAbs ≤ t.natAbs := by
  have e := congrArg Int.natAbs (lowT_mul t b)
  rw [Int.natAbs_mul] at e
  have hd : 0 < (dvs t b).natAbs := by have := dvs_ne (t := t) h; omega
  rw [← e]
  exact Nat.le_mul_of_pos_right _ hd
theorem lowB_le {t b : Int} (h : b ≠ 0) : (lowB t b).natAbs ≤ b.natAbs := by
  have e := congrArg Int.natAbs (lowB_mul t b)
  rw [Int.natAbs_mul] at e
  have hd : 0 < (dvs t b).natAbs := by have := dvs_ne (t := t) h; omega
  rw [← e]
  exact Nat.le_mul_of_pos_right _ hd
theorem lowB_pos {t b : Int} (h : b ≠ 0) : 0 < lowB t b := by
  have e := lowB_mul t b
  have hg : 0 < Nat.gcd t.natAbs b.natAbs := Nat.gcd_pos_of_pos_right _ (by omega)
  by_cases hb : b < 0
  · have hd : dvs t b < 0 := by unfold dvs; rw [if_pos hb]; omega
    rcases Int.lt_trichotomy (lowB t b) 0 with q | q | q
    · have : 0 < lowB t b * dvs t b := Int.mul_pos_of_neg_of_neg q hd
      omega
    · rw [q, Int.zero_mul] at e; omega
    · exact q
  · have hd : 0 < dvs t b := by unfold dvs; rw [if_neg hb]; omega
    rcases Int.lt_trichotomy (lowB t b) 0 with q | q | q
    · have : lowB t b * dvs t b < 0 := Int.mul_neg_of_neg_of_pos q hd
      omega
    · rw [q, Int.zero_mul] at e; omega
    · exact q
theorem low_gcd {t b : Int} (h : b ≠ 0) : Nat.gcd (lowT t b).natAbs (lowB t b).natAbs = 1 := by
  have e1 := congrArg Int.natAbs (lowT_mul t b)
  have e2 := congrArg Int.natAbs (lowB_mul t b)
  rw [Int.natAbs_mul, dvs_abs] at e1 e2
  have hg : 0 < Nat.gcd t.natAbs b.natAbs := Nat.gcd_pos_of_pos_right _ (by omega)
  have e3 : Nat.gcd (lowT t b).natAbs (lowB t b).natAbs * Nat.gcd t.natAbs b.natAbs = 1 * Nat.gcd t.natAbs b.natAbs := by
    rw [← Nat.gcd_mul_right, e1, e2, Nat.one_mul]
  exact Nat.eq_of_mul_eq_mul_right hg e3
theorem low_same {t b : Int} (hb : 0 < b) (hg : Nat.gcd t.natAbs b.natAbs = 1) : lowT t b = t ∧ lowB t b = b := by
  have e : dvs t b = 1 := by
    unfold dvs
    rw [if_neg (by omega), hg]
    rfl
  unfold lowT lowB
  rw [e, Int.fdiv_one, Int.fdiv_one]
  exact ⟨rfl, rfl⟩
theorem low_low {t b : Int} (h : b ≠ 0) : lowT (lowT t b) (lowB t b) = lowT t b ∧ lowB (lowT t b) (lowB t b) = lowB t b := low_same (lowB_pos h) (low_gcd h)

/-! ### sums, products, differences -/
section
variable {P : Program} {w : World} {K : PySem.W.Frag} {mg : Str → Option Value} {base : Heap}
def Low (t b : Int) : Prop := 0 < b ∧ Nat.gcd t.natAbs b.natAbs = 1
theorem Low.of {t b : Int} (h : b ≠ 0) : Low (lowT t b) (lowB t b) := ⟨lowB_pos h, low_gcd h⟩
theorem Low.neg {t b : Int} (h : Low t b) : Low (-t) b := ⟨h.1, by rw [Int.natAbs_neg]; exact h.2⟩
theorem Low.one (t : Int) : Low t 1 := ⟨by decide, by simp⟩
theorem Low.ne {t b : Int} (h : Low t b) : b ≠ 0 := by have := h.1; omega
theorem Low.tt {t b : Int} (h : Low t b) : lowT t b = t := (low_same h.1 h.2).1
theorem Low.bb {t b : Int} (h : Low t b) : lowB t b = b := (low_same h.1 h.2).2
theorem dvs_scale {k t b : Int} (hk : k ≠ 0) (hb : b ≠ 0) : dvs (k * t) (k * b) = k * dvs t b := by
  have eg : Nat.gcd (k * t).natAbs (k * b).natAbs = k.natAbs * Nat.gcd t.natAbs b.natAbs := by rw [Int.natAbs_mul, Int.natAbs_mul, Nat.gcd_mul_left]
  unfold dvs
  rw [eg, Int.natCast_mul]
  generalize ((Nat.gcd t.natAbs b.natAbs : Nat) : Int) = g
  rcases Int.lt_or_gt_of_ne hk with q | q <;> rcases Int.lt_or_gt_of_ne hb with r | r
  · have : 0 < k * b := Int.mul_pos_of_neg_of_neg q r
    rw [if_neg (by omega), if_pos r, show ((k.natAbs : Nat) : Int) = -k by omega, Int.neg_mul, Int.mul_neg]
  · have : k * b < 0 := Int.mul_neg_of_neg_of_pos q r
    rw [if_pos this, if_neg (by omega), show ((k.natAbs : Nat) : Int) = -k by omega, Int.neg_mul, Int.neg_neg]
  · have : k * b < 0 := Int.mul_neg_of_pos_of_neg q r
    rw [if_pos this, if_pos r, show ((k.natAbs : Nat) : Int) = k by omega, Int.mul_neg]
  · have : 0 < k * b := Int.mul_pos q r
    rw [if_neg (by omega), if_neg (by omega), show ((k.natAbs : Nat) : Int) = k by omega]
theorem fdiv_scale {k a d : Int} (hk : k ≠ 0) (hd : d ≠ 0) (h : d ∣ a) : (k * a).fdiv (k * d) = a.fdiv d := by
  obtain ⟨c, rfl⟩ := h
  have e : k * (d * c) = c * (k * d) := by rw [Int.mul_comm c, Int.mul_assoc]
  rw [e, Int.mul_fdiv_cancel _ (Int.mul_ne_zero hk hd), Int.mul_comm d c, Int.mul_fdiv_cancel _ hd]
theorem low_scale {k t b : Int} (hk : k ≠ 0) (hb : b ≠ 0) : lowT (k * t) (k * b) = lowT t b ∧ lowB (k * t) (k * b) = lowB t b := by
  unfold lowT lowB
  rw [dvs_scale hk hb]
  exact ⟨fdiv_scale hk (dvs_ne hb) (dvs_dvd_t t b), fdiv_scale hk (dvs_ne hb) (dvs_dvd_b t b)⟩
/-- divided by x / y, that is, times the lowest terms of y / x -/
theorem low_over {t b x y : Int} (hy : y ≠ 0) (hb : b ≠ 0) : lowT (t * x) (b * y) = lowT (t * lowT x y) (b * lowB x y) ∧ lowB (t * x) (b * y) = lowB (t * lowT x y) (b * lowB x y) := by
  have h := low_scale (k := dvs x y) (t := t * lowT x y) (b := b * lowB x y) (dvs_ne hy) (Int.mul_ne_zero hb (by have := lowB_pos (t := x) hy; omega))
  have e1 : dvs x y * (t * lowT x y) = t * x := by rw [Int.mul_comm, Int.mul_assoc, lowT_mul]
  have e2 : dvs x y * (b * lowB x y) = b * y := by rw [Int.mul_comm, Int.mul_assoc, lowB_mul]
  rw [e1, e2] at h
  exact h
def SM (z : Int) : Prop := z.natAbs < 2 ^ 200
theorem sm_mul {a b : Int} (ha : SM a) (hb : SM b) : CMulW a b := wide_mul (a := 200) (b := 200) ha hb (by decide) (by decide) (by decide)
theorem big_mul {a b : Int} (ha : SM a) (hb : SM b) : BIG (a * b) := by
  show (a * b).natAbs < 2 ^ 8000
  rw [Int.natAbs_mul]
  exact Nat.lt_of_le_of_lt (Nat.mul_le_mul (Nat.le_of_lt ha) (Nat.le_of_lt hb)) (by decide +kernel)
theorem SM.big {a : Int} (h : SM a) : BIG a := Nat.lt_of_lt_of_le h (by decide +kernel)
theorem SM.neg {a : Int} (h : SM a) : SM (-a) := by unfold SM; rw [Int.natAbs_neg]; exact h
theorem sm_one : SM 1 := by show (1 : Nat) < 2 ^ 200; decide +kernel
/-- a ratio, or an int as one -/
def Num (C : Addr) (H : Hp) (v : V) (t b : Int) : Prop := (v = .int t ∧ b = 1) ∨ ∃ p, v = .ref p ∧ RatAt C H p t b
theorem RatAt.on {C : Addr} {H H' : Hp} {p : Addr} {t b : Int} (r : RatAt C H p t b) (s : Same H H') : RatAt C H' p t b := let ⟨dx, h⟩ := r; ⟨dx, s _ _ h⟩
theorem Num.on {C : Addr} {H H' : Hp} {v : V} {t b : Int} (n : Num C H v t b) (s : Same H H') : Num C H' v t b := n.elim .inl fun ⟨p, e, r⟩ => .inr ⟨p, e, r.on s⟩
def spNum (C : Addr) : Sp := fun vs H Q _ => ∃ (v : V) (t b : Int), vs = [v] ∧ Num C H v t b ∧ ∀ p H', Same H H' → RatAt C H' p t b → Q (.ref p) H'
theorem ok_asN (T : Txt K mg) : FnOk P w K mg base CX0 3 T.f_as_ratio T.d_as_ratio ["value"] (spNum T.f_Ratio) := by
  have G_Ratio_init : FnOk P w K mg base CX0 1 T.f_Ratio_init T.d_Ratio_init ["self", "top", "bottom"] (spInit T.f_Ratio) := ok_init T
  refine T.F_as_ratio.ok sc_as_ratio (fun vs H Q E h => ?_) (fun cdv A outer s H vs Q E hr h => ?_)
  · obtain ⟨v, t, b, rfl, _⟩ := h
    rfl
  · obtain ⟨v, t, b, rfl, n, k⟩ := h
    refine ⟨_, (pss_cons (ps_if (pt_val (pe_callB call_isi (by rfl) T.n_isinstance (by decide +kernel) (pa_cons (pv 0) (pa_cons (pe_glob (v := .ref T.f_Ratio) rfl T.m_Ratio rfl) pa_nil))))
      (pss_one (ps_ret (pv 0)))
      pss_nil)
    (pss_one (ps_ret (pe_make T.mk_Ratio G_Ratio_init (hr.mono (by decide)) rfl T.m_Ratio T.b1_Ratio_init T.v1_Ratio_init pass0 (pa_cons (pv 0) pa_nil))))), ?_⟩
    rcases n with ⟨rfl, rfl⟩ | ⟨p, rfl, r⟩
    · refine ⟨_, rfl, .int t, .ref T.f_Ratio, .type "int", .ref T.f_Ratio, false, rfl, .own _, .base (.int _), T.ki_Ratio_int, false, rfl, iteF ?_⟩
      refine ⟨_, rfl, made_rat (by decide) big_one fun x H' nx sm r => ?_⟩
      rw [(low_one t).1, (low_one t).2] at r
      exact k x H' sm r
    · exact ⟨_, rfl, .ref p, .ref T.f_Ratio, .ref T.f_Ratio, .ref T.f_Ratio, true, rfl, .own _, tyR T.ic_Ratio r, kit_self, true, rfl, iteT ⟨_, rfl, k p H (Same.refl H) r⟩⟩
/-- a new ratio, in lowest terms -/
def Res (C : Addr) (H : Hp) (x y : Int) (Q : VK) : Prop := ∀ q H', H q = none → Same H H' → RatAt C H' q (lowT x y) (lowB x y) → Q (.ref q) H'
def spAdd (C : Addr) : Sp := fun vs H Q _ => ∃ (p : Addr) (y : V) (t b t' b' : Int), vs = [.ref p, y] ∧ RatAt C H p t b ∧ Num C H y t' b' ∧ SM t ∧ SM b ∧ SM t' ∧ SM b' ∧ b ≠ 0 ∧ b' ≠ 0 ∧ Res C H (t * b' + t' * b) (b * b') Q
def spMul (C : Addr) : Sp := fun vs H Q _ => ∃ (p : Addr) (y : V) (t b t' b' : Int), vs = [.ref p, y] ∧ RatAt C H p t b ∧ Num C H y t' b' ∧ SM t ∧ SM b ∧ SM t' ∧ SM b' ∧ b ≠ 0 ∧ b' ≠ 0 ∧ Res C H (t * t') (b * b') Q
def spOver (C : Addr) : Sp := fun vs H Q _ => ∃ (p : Addr) (y : V) (t b t' b' : Int), vs = [.ref p, y] ∧ RatAt C H p t b ∧ Num C H y t' b' ∧ SM t ∧ SM b ∧ SM t' ∧ SM b' ∧ b ≠ 0 ∧ t' ≠ 0 ∧ Res C H (t * b') (b * t') Q
def spBelow (C : Addr) : Sp := fun vs H Q _ => ∃ (p : Addr) (y : V) (t b t' b' : Int), vs = [.ref p, y] ∧ RatAt C H p t b ∧ Num C H y t' b' ∧ SM t ∧ SM b ∧ SM t' ∧ SM b' ∧ ∀ H', Same H H' → Q (.bl (decide (t * b' < t' * b))) H'
def spNeg (C : Addr) : Sp := fun vs H Q _ => ∃ (p : Addr) (t b : Int), vs = [.ref p] ∧ RatAt C H p t b ∧ Low t b ∧ SM b ∧ ∀ q H', H q = none → Same H H' → RatAt C H' q (-t) b → Q (.ref q) H'
def spEqB (C : Addr) : Sp := fun vs H Q _ => ∃ (p q : Addr) (t b t' b' : Int), vs = [.ref p, .ref q] ∧ RatAt C H p t b ∧ RatAt C H q t' b' ∧ Q (.bl (decide (t = t' ∧ b = b'))) H
end

section
variable {P : Program} {w : World} {K : PySem.W.Frag} {mg : Str → Option Value} {base : Heap}
theorem ok_below (T : Txt K mg) : FnOk P w K mg base CX0 4 T.f_Ratio_below T.d_Ratio_below ["self", "value"] (spBelow T.f_Ratio) := by
  have G_Ratio_top : FnOk P w K mg base CX0 1 T.f_Ratio_top T.d_Ratio_top ["self"] (spTop T.f_Ratio) := ok_top T
  have G_Ratio_bottom : FnOk P w K mg base CX0 1 T.f_Ratio_bottom T.d_Ratio_bottom ["self"] (spBottom T.f_Ratio) := ok_bottom T
  have G_as_ratio : FnOk P w K mg base CX0 3 T.f_as_ratio T.d_as_ratio ["value"] (spNum T.f_Ratio) := ok_asN T
  refine T.F_Ratio_below.ok sc_Ratio_below (fun vs H Q E h => ?_) (fun cdv A outer s H vs Q E hr h => ?_)
  · obtain ⟨p, y, t, b, t', b', rfl, _⟩ := h
    rfl
  · obtain ⟨p, y, t, b, t', b', rfl, r, n, ht, hb, ht', hb', k⟩ := h
    refine ⟨_, (pss_cons (ps_set (i := 2) sc_Ratio_below.nd rfl (Or.inl rfl) (pe_call G_as_ratio (hr.mono (by decide)) rfl T.m_as_ratio T.F_as_ratio.kp T.b_as_ratio .nil pass0 (pa_cons (pv 1) pa_nil)))
    (pss_one (ps_ret (pe_cmpR op_lt (pe_op op_mulW (pe_fld (pv 0) rfl) (pe_prop (pv 2) T.cl_Ratio T.p_Ratio_bottom G_Ratio_bottom (hr.mono (by decide)) T.b_Ratio_bottom .nil pass0 rfl)) (pe_op op_mulW (pe_prop (pv 2) T.cl_Ratio T.p_Ratio_top G_Ratio_top (hr.mono (by decide)) T.b_Ratio_top .nil pass0 rfl) (pe_fld (pv 0) rfl)) (nomark _))))), ?_⟩
    refine ⟨_, rfl, y, t', b', rfl, n, fun p' H1 s1 r1 => ?_⟩
    obtain ⟨dx, hp⟩ := r.on s1
    obtain ⟨dx', hp'⟩ := id r1
    refine ⟨_, rfl, p, T.f_Ratio, dx, _, _, rfl, hp, T.cl_Ratio, T.na_Ratio_top, rf_top _ _, _, rfl, p', dx', _, rfl, hp', p', t', b', rfl, r1, _, _, rfl, rfl, sm_mul ht hb', ?_⟩
    refine ⟨_, rfl, p', dx', _, rfl, hp', p', t', b', rfl, r1, _, rfl, p, T.f_Ratio, dx, _, _, rfl, hp, T.cl_Ratio, T.na_Ratio_bottom, rf_bottom _ _, _, _, rfl, rfl, sm_mul ht' hb, _, _, rfl, rfl, ?_⟩
    exact k H1 s1
end

section
variable {P : Program} {w : World} {K : PySem.W.Frag} {mg : Str → Option Value} {base : Heap}
theorem ok_neg (T : Txt K mg) : FnOk P w K mg base CX0 3 T.f_Ratio_neg T.d_Ratio_neg ["self"] (spNeg T.f_Ratio) := by
  have G_Ratio_init : FnOk P w K mg base CX0 1 T.f_Ratio_init T.d_Ratio_init ["self", "top", "bottom"] (spInit T.f_Ratio) := ok_init T
  refine T.F_Ratio_neg.ok sc_Ratio_neg (fun vs H Q E h => ?_) (fun cdv A outer s H vs Q E hr h => ?_)
  · obtain ⟨p, t, b, rfl, _⟩ := h
    rfl
  · obtain ⟨p, t, b, rfl, ⟨dx, hp⟩, hl, hb, k⟩ := h
    refine ⟨_, (pss_one (ps_ret (pe_make T.mk_Ratio G_Ratio_init (hr.mono (by decide)) rfl T.m_Ratio T.b2_Ratio_init T.v2_Ratio_init pass0 (pa_cons (pe_un un_neg (pe_fld (pv 0) rfl)) (pa_cons (pe_fld (pv 0) rfl) pa_nil))))), ?_⟩
    refine ⟨_, rfl, p, T.f_Ratio, dx, _, _, rfl, hp, T.cl_Ratio, T.na_Ratio_top, rf_top _ _, t, rfl, _, rfl, p, T.f_Ratio, dx, _, _, rfl, hp, T.cl_Ratio, T.na_Ratio_bottom, rf_bottom _ _, ?_⟩
    refine made_rat hl.ne hb.big fun q H' nq sq rq => ?_
    rw [hl.neg.tt, hl.neg.bb] at rq
    exact k q H' nq sq rq
end

/-! ### differences, least and greatest -/
section
variable {P : Program} {w : World} {K : PySem.W.Frag} {mg : Str → Option Value} {base : Heap}
def spSub (C : Addr) : Sp := fun vs H Q _ => ∃ (p : Addr) (y : V) (t b t' b' : Int), vs = [.ref p, y] ∧ RatAt C H p t b ∧ Num C H y t' b' ∧ SM t ∧ SM b ∧ SM t' ∧ SM b' ∧ b ≠ 0 ∧ Low t' b' ∧ Res C H (t * b' + -t' * b) (b * b') Q
def spRsub (C : Addr) : Sp := fun vs H Q _ => ∃ (p : Addr) (i t b : Int), vs = [.ref p, .int i] ∧ RatAt C H p t b ∧ SM t ∧ SM b ∧ SM i ∧ Low t b ∧ Res C H (-t * 1 + i * b) (b * 1) Q
/-- the least, the greatest -/
def pick (m v : Int × Int) : Int × Int := if v.1 * m.2 < m.1 * v.2 then v else m
def pickG (m v : Int × Int) : Int × Int := if m.1 * v.2 < v.1 * m.2 then v else m
def foldP (f : Int × Int → Int × Int → Int × Int) : List (Int × Int) → Int × Int
  | [] => (0, 1)
  | v :: r => r.foldl f v
def ngP (v : Int × Int) : Int × Int := (-v.1, v.2)
theorem pick_neg (m v : Int × Int) : pick (ngP m) (ngP v) = ngP (pickG m v) := by
  unfold pick pickG ngP
  simp only
  have e : (-v.1 * m.2 < -m.1 * v.2) ↔ (m.1 * v.2 < v.1 * m.2) := by rw [Int.neg_mul, Int.neg_mul]; omega
  by_cases h : m.1 * v.2 < v.1 * m.2
  · rw [if_pos (e.mpr h), if_pos h]
  · rw [if_neg (fun q => h (e.mp q)), if_neg h]
theorem fold_neg : ∀ (l : List (Int × Int)) (m : Int × Int), (l.map ngP).foldl pick (ngP m) = ngP (l.foldl pickG m)
  | [], m => rfl
  | v :: r, m => by
    show (r.map ngP).foldl pick (pick (ngP m) (ngP v)) = ngP (r.foldl pickG (pickG m v))
    rw [pick_neg]
    exact fold_neg r _
theorem least_neg {ps : List (Int × Int)} (h : ps ≠ []) : foldP pick (ps.map ngP) = ngP (foldP pickG ps) := by
  cases ps with
  | nil => exact absurd rfl h
  | cons v r => exact fold_neg r v
/-- small and in lowest terms -/
def Fine (v : Int × Int) : Prop := Low v.1 v.2 ∧ SM v.1 ∧ SM v.2
theorem Fine.ng {v : Int × Int} (h : Fine v) : Fine (ngP v) := ⟨h.1.neg, h.2.1.neg, h.2.2⟩
theorem fine_pick {m v : Int × Int} (a : Fine m) (b : Fine v) : Fine (pick m v) := by unfold pick; split <;> assumption
theorem fine_fold : ∀ (l : List (Int × Int)) (m : Int × Int), Fine m → (∀ v ∈ l, Fine v) → Fine (l.foldl pick m)
  | [], m, h, _ => h
  | v :: r, m, h, k => fine_fold r _ (fine_pick h (k v List.mem_cons_self)) fun u hu => k u (List.mem_cons_of_mem _ hu)
theorem fine_least {ps : List (Int × Int)} (h : ps ≠ []) (k : ∀ v ∈ ps, Fine v) : Fine (foldP pick ps) := by
  cases ps with
  | nil => exact absurd rfl h
  | cons v r => exact fine_fold r v (k v List.mem_cons_self) fun u hu => k u (List.mem_cons_of_mem _ hu)
/-- the items of a list or tuple, and their values -/
structure Nums (C : Addr) (H : Hp) (xs : List V) (ps : List (Int × Int)) : Prop where
  len : xs.length = ps.length
  at_ : ∀ (i : Nat) (x : V) (p : Int × Int), xs[i]? = some x → ps[i]? = some p → Num C H x p.1 p.2
  fine : ∀ p ∈ ps, Fine p
theorem Nums.on {C : Addr} {H H' : Hp} {xs : List V} {ps : List (Int × Int)} (n : Nums C H xs ps) (s : Same H H') : Nums C H' xs ps := ⟨n.len, fun i x p a b => (n.at_ i x p a b).on s, n.fine⟩
theorem RatAt.put {C : Addr} {H : Hp} {p D : Addr} {t b : Int} {ys zs : List V} (r : RatAt C H p t b) (h : H D = some (.lst ys)) : RatAt C (upd H D (.lst zs)) p t b := by
  obtain ⟨dx, e⟩ := r
  have n : p ≠ D := fun q => by rw [q, h] at e; cases e
  exact ⟨dx, by rw [upd_ne n]; exact e⟩
theorem Num.put {C : Addr} {H : Hp} {v : V} {D : Addr} {t b : Int} {ys zs : List V} (r : Num C H v t b) (h : H D = some (.lst ys)) : Num C (upd H D (.lst zs)) v t b := r.elim .inl fun ⟨p, e, r⟩ => .inr ⟨p, e, r.put h⟩
theorem Nums.put {C : Addr} {H : Hp} {D : Addr} {xs ys zs : List V} {ps : List (Int × Int)} (n : Nums C H xs ps) (h : H D = some (.lst ys)) : Nums C (upd H D (.lst zs)) xs ps := ⟨n.len, fun i x p a b => (n.at_ i x p a b).put h, n.fine⟩
theorem Nums.nil {C : Addr} {H : Hp} : Nums C H [] [] := ⟨rfl, fun i x p a _ => by simp at a, fun p h => by simp at h⟩
theorem Nums.cons {C : Addr} {H : Hp} {x : V} {p : Int × Int} {xs : List V} {ps : List (Int × Int)} (n : Num C H x p.1 p.2) (f : Fine p) (r : Nums C H xs ps) : Nums C H (x :: xs) (p :: ps) := by
  refine ⟨by rw [List.length_cons, List.length_cons, r.len], fun i y q a b => ?_, fun q h => ?_⟩
  · cases i with
    | zero =>
      simp at a b
      subst a; subst b
      exact n
    | succ i =>
      simp at a b
      exact r.at_ i y q a b
  · rcases List.mem_cons.mp h with rfl | h
    · exact f
    · exact r.fine q h
theorem Nums.snoc {C : Addr} {H : Hp} {x : V} {p : Int × Int} : ∀ {xs : List V} {ps : List (Int × Int)}, Nums C H xs ps → Num C H x p.1 p.2 → Fine p → Nums C H (xs ++ [x]) (ps ++ [p])
  | [], [], _, n, f => Nums.cons n f Nums.nil
  | [], _ :: _, r, _, _ => by have := r.len; simp at this
  | _ :: _, [], r, _, _ => by have := r.len; simp at this
  | y :: ys, q :: qs, r, n, f => by
    refine Nums.cons (r.at_ 0 y q rfl rfl) (r.fine q List.mem_cons_self) (Nums.snoc ⟨?_, fun i x p a b => r.at_ (i + 1) x p (by simpa using a) (by simpa using b), fun p h => r.fine p (List.mem_cons_of_mem _ h)⟩ n f)
    have := r.len
    simpa using this
theorem Nums.get {C : Addr} {H : Hp} {xs : List V} {ps : List (Int × Int)} (n : Nums C H xs ps) {i : Nat} {x : V} (h : xs[i]? = some x) : ∃ p, ps[i]? = some p ∧ Num C H x p.1 p.2 ∧ Fine p := by
  have hi : i < ps.length := by rw [← n.len]; exact (List.getElem?_eq_some_iff.mp h).1
  exact ⟨ps[i], List.getElem?_eq_getElem hi, n.at_ i x _ h (List.getElem?_eq_getElem hi), n.fine _ (List.getElem_mem hi)⟩
theorem fold_more {f : Int × Int → Int × Int → Int × Int} {l : List (Int × Int)} {i : Nat} {m v : Int × Int} (h : l[i]? = some v) : (l.take (i + 1)).foldl f m = f ((l.take i).foldl f m) v := by
  rw [take_more h, List.foldl_append]
  rfl
theorem nBe1 : (("below" : Str) == ("_top" : Str)) = false := by decide +kernel
theorem nBe2 : (("below" : Str) == ("_bottom" : Str)) = false := by decide +kernel
theorem rf_below (t b : Int) : (rf t b).lookup ("below" : Str) = none := by simp [rf, List.lookup, nBe1, nBe2]
theorem nOv1 : (("over" : Str) == ("_top" : Str)) = false := by decide +kernel
theorem nOv2 : (("over" : Str) == ("_bottom" : Str)) = false := by decide +kernel
theorem rf_over (t b : Int) : (rf t b).lookup ("over" : Str) = none := by simp [rf, List.lookup, nOv1, nOv2]
def SqA (K : PySem.W.Frag) (H : Hp) (l : Addr) (xs : List V) : Prop := SqL K H l xs ∨ SqT K H l xs
theorem ix_seq {H : Hp} {l : Addr} {xs : List V} {i : Int} {v : V} {Q : VK} (h : SqA K H l xs) (e : atI xs i = some v) (q : Q v H) : rIxL K (.ref l) (.int i) H Q ∨ rIxT K (.ref l) (.int i) H Q :=
  h.elim (fun h => .inl ⟨l, xs, i, v, rfl, rfl, h, e, q⟩) fun h => .inr ⟨l, xs, i, v, rfl, rfl, h, e, q⟩
def spLeast (K : PySem.W.Frag) (C : Addr) : Sp := fun vs H Q _ => ∃ (l : Addr) (xs : List V) (ps : List (Int × Int)), vs = [.ref l] ∧ SqA K H l xs ∧ xs ≠ [] ∧ Nums C H xs ps ∧ ∀ q H', Same H H' → RatAt C H' q (foldP pick ps).1 (foldP pick ps).2 → Q (.ref q) H'
theorem ok_least (T : Txt K mg) : FnOk P w K mg base CX0 5 T.f_least T.d_least ["values"] (spLeast K T.f_Ratio) := by
  have G_as_ratio : FnOk P w K mg base CX0 3 T.f_as_ratio T.d_as_ratio ["value"] (spNum T.f_Ratio) := ok_asN T
  have G_Ratio_below : FnOk P w K mg base CX0 4 T.f_Ratio_below T.d_Ratio_below ["self", "value"] (spBelow T.f_Ratio) := ok_below T
  refine T.F_least.ok sc_least (fun vs H Q E h => ?_) (fun cdv A outer s H vs Q E hr h => ?_)
  · obtain ⟨l, xs, ps, rfl, _⟩ := h
    rfl
  · obtain ⟨l, xs, ps, rfl, hS, hx, n, k⟩ := h
    refine ⟨_, PSs.nox (pss_cons (ps_if (pt_cmpR op_eq (pe_callB call_len_seq (by rfl) T.n_len (by decide +kernel) (pa_cons (pv 0) pa_nil)) pe_int (nomark _))
      (pss_one ps_never)
      pss_nil)
    (pss_cons (ps_set (i := 1) sc_least.nd rfl (Or.inl rfl) (pe_call G_as_ratio (hr.mono (by decide)) rfl T.m_as_ratio T.F_as_ratio.kp T.b_as_ratio .nil pass0 (pa_cons (pe_ix (ix_or ix_list ix_tup) (pv 0) pe_int (fun _ _ => rfl)) pa_nil)))
    (C8.pss_cut (ps_for PassesOwn.never rfl (pi_seq (pe_slice (sl_list.or sl_tupA) (pv 0) (po_some pe_int) po_none)) (pg_name (i := 2) sc_least.nd rfl (Or.inl rfl))
      (pss_cons (ps_set (i := 3) sc_least.nd rfl (Or.inl rfl) (pe_call G_as_ratio (hr.mono (by decide)) rfl T.m_as_ratio T.F_as_ratio.kp T.b_as_ratio .nil pass0 (pa_cons (pv 2) pa_nil)))
    (pss_one (ps_if (pt_val (pe_meth (pv 3) T.cl_Ratio T.me_Ratio_below G_Ratio_below (hr.mono (by decide)) T.b_Ratio_below .nil pass0 (pa_cons (pv 1) pa_nil)))
      (pss_one (ps_set (i := 1) sc_least.nd rfl (Or.inl rfl) (pv 3)))
      pss_nil))))
    (pss_one (ps_ret (pv 1)))))), ?_⟩
    cases xs with
    | nil => exact absurd rfl hx
    | cons x xr =>
    cases ps with
    | nil => have := n.len; simp at this
    | cons p pr =>
    have nr : Nums T.f_Ratio H xr pr := ⟨by have := n.len; simpa using this, fun i y q a b => n.at_ (i + 1) y q (by simpa using a) (by simpa using b), fun q h => n.fine q (List.mem_cons_of_mem _ h)⟩
    refine ⟨_, rfl, l, x :: xr, rfl, hS, rfl, _, rfl, ite2 (fun hz => ?_) fun _ => ?_⟩
    · have e := of_decide_eq_true hz
      injection e with e
      rw [List.length_cons] at e
      omega
    refine ⟨_, rfl, ix_seq hS at0 ?_⟩
    refine ⟨x, p.1, p.2, rfl, n.at_ 0 x p rfl rfl, fun q0 H1 s1 r1 => ?_⟩
    refine ⟨fun σ H' => ∃ (q : Addr) (x2 x3 : Option V), σ = [some (.ref l), some (.ref q), x2, x3] ∧ Same H H' ∧ RatAt T.f_Ratio H' q (foldP pick (p :: pr)).1 (foldP pick (p :: pr)).2, ?_, ?_⟩
    · have hc : cutV (x :: xr) (some 1) none = xr := cut1 _
      have turn : ∀ Hs, Same H Hs → ∀ i y σ H', xr[i]? = some y → (∃ (q : Addr) (x2 x3 : Option V), σ = [some (.ref l), some (.ref q), x2, x3] ∧ Same Hs H' ∧ RatAt T.f_Ratio H' q ((pr.take i).foldl pick p).1 ((pr.take i).foldl pick p).2 ∧ Fine ((pr.take i).foldl pick p)) →
          ∃ v, pr[i]? = some v ∧ Num T.f_Ratio H' y v.1 v.2 ∧ Fine v := fun Hs sh i y σ H' hy ⟨_, _, _, _, s', _, _⟩ => (nr.on (sh.trans s')).get hy
      have fin : ∀ {Hs : Hp}, Same H Hs → ∀ σ H', (∃ (q : Addr) (x2 x3 : Option V), σ = [some (.ref l), some (.ref q), x2, x3] ∧ Same Hs H' ∧ RatAt T.f_Ratio H' q ((pr.take xr.length).foldl pick p).1 ((pr.take xr.length).foldl pick p).2 ∧ Fine ((pr.take xr.length).foldl pick p)) →
          ∃ (q : Addr) (x2 x3 : Option V), σ = [some (.ref l), some (.ref q), x2, x3] ∧ Same H H' ∧ RatAt T.f_Ratio H' q (foldP pick (p :: pr)).1 (foldP pick (p :: pr)).2 := by
        rintro Hs sh σ H' ⟨q, x2, x3, e, s', r, f⟩
        rw [nr.len, List.take_length] at r
        exact ⟨q, x2, x3, e, sh.trans s', r⟩
      rcases hS with hL | hT
      · refine ⟨_, rfl, 1, rfl, .inl ⟨l, x :: xr, rfl, s1.seq hL, fun a ha => ?_⟩⟩
        have s2 : Same H (upd H1 a (.lst (cutV (x :: xr) (some 1) none))) := s1.trans (same_upd ha)
        rw [hc] at s2 ⊢
        refine ⟨a, rfl, .inl ⟨⟨_, SqL.of upd_same⟩, ?_⟩⟩
        refine for_list (xs := xr) (fun i σ H' => ∃ (q : Addr) (x2 x3 : Option V), σ = [some (.ref l), some (.ref q), x2, x3] ∧ Same (upd H1 a (.lst xr)) H' ∧ RatAt T.f_Ratio H' q ((pr.take i).foldl pick p).1 ((pr.take i).foldl pick p).2 ∧ Fine ((pr.take i).foldl pick p)) ⟨q0, none, none, rfl, Same.refl _, r1.on (same_upd ha), n.fine p List.mem_cons_self⟩ (fun i σ H' _ ⟨_, _, _, _, s', _⟩ => SqL.of (s' _ _ upd_same)) (fun i y σ H' hy hP => ?_) (fin s2)
        obtain ⟨v, hv, nv, fv⟩ := turn _ s2 i y σ H' hy hP
        obtain ⟨q, x2, x3, rfl, s', rq, fq⟩ := hP
        refine ⟨_, rfl, y, v.1, v.2, rfl, nv, fun q2 H2 s2' r2 => ?_⟩
        obtain ⟨d2, h2⟩ := id r2
        refine ⟨_, rfl, q2, d2, _, rfl, h2, rf_below _ _, _, rfl, q2, _, v.1, v.2, _, _, rfl, r2, .inr ⟨q, rfl, rq.on s2'⟩, fv.2.1, fv.2.2, fq.2.1, fq.2.2, fun H3 s3 => ⟨_, rfl, ?_⟩⟩
        rw [fold_more hv]
        unfold pick at fq rq ⊢
        refine ite2 (fun hb => ?_) fun hb => ?_
        · rw [if_pos (of_decide_eq_true hb)]
          exact ⟨_, rfl, q2, _, _, rfl, (s'.trans s2').trans s3, r2.on s3, fv⟩
        · rw [if_neg fun z => hb (decide_eq_true z)]
          exact ⟨q, _, _, rfl, (s'.trans s2').trans s3, (rq.on s2').on s3, fq⟩
      · refine ⟨_, rfl, 1, rfl, .inr ⟨l, x :: xr, rfl, hT.ext s1, fun hw => ?_, fun _ a ha => ?_⟩⟩
        · exfalso
          have e : HT.sIx (x :: xr).length 0 (some 1) = min 1 (x :: xr).length := HT.sIx_nat (x :: xr).length 0 1
          have := hw.1
          rw [e, List.length_cons] at this
          omega
        have s2 : Same H (upd H1 a (.tup (cutV (x :: xr) (some 1) none))) := s1.trans (same_upd ha)
        rw [hc] at s2 ⊢
        refine ⟨a, rfl, .inr ⟨⟨_, SqT.of upd_same⟩, ?_⟩⟩
        refine for_tup (xs := xr) (fun i σ H' => ∃ (q : Addr) (x2 x3 : Option V), σ = [some (.ref l), some (.ref q), x2, x3] ∧ Same (upd H1 a (.tup xr)) H' ∧ RatAt T.f_Ratio H' q ((pr.take i).foldl pick p).1 ((pr.take i).foldl pick p).2 ∧ Fine ((pr.take i).foldl pick p)) ⟨q0, none, none, rfl, Same.refl _, r1.on (same_upd ha), n.fine p List.mem_cons_self⟩ (fun i σ H' _ ⟨_, _, _, _, s', _⟩ => SqT.of (s' _ _ upd_same)) (fun i y σ H' hy hP => ?_) (fin s2)
        obtain ⟨v, hv, nv, fv⟩ := turn _ s2 i y σ H' hy hP
        obtain ⟨q, x2, x3, rfl, s', rq, fq⟩ := hP
        refine ⟨_, rfl, y, v.1, v.2, rfl, nv, fun q2 H2 s2' r2 => ?_⟩
        obtain ⟨d2, h2⟩ := id r2
        refine ⟨_, rfl, q2, d2, _, rfl, h2, rf_below _ _, _, rfl, q2, _, v.1, v.2, _, _, rfl, r2, .inr ⟨q, rfl, rq.on s2'⟩, fv.2.1, fv.2.2, fq.2.1, fq.2.2, fun H3 s3 => ⟨_, rfl, ?_⟩⟩
        rw [fold_more hv]
        unfold pick at fq rq ⊢
        refine ite2 (fun hb => ?_) fun hb => ?_
        · rw [if_pos (of_decide_eq_true hb)]
          exact ⟨_, rfl, q2, _, _, rfl, (s'.trans s2').trans s3, r2.on s3, fv⟩
        · rw [if_neg fun z => hb (decide_eq_true z)]
          exact ⟨q, _, _, rfl, (s'.trans s2').trans s3, (rq.on s2').on s3, fq⟩
    · rintro σ H' ⟨q, x2, x3, rfl, s', rq⟩
      exact ⟨_, rfl, k q H' s' rq⟩
end

section
variable {P : Program} {w : World} {K : PySem.W.Frag} {mg : Str → Option Value} {base : Heap}
def spGreat (K : PySem.W.Frag) (C : Addr) : Sp := fun vs H Q _ => ∃ (l : Addr) (xs : List V) (ps : List (Int × Int)), vs = [.ref l] ∧ SqA K H l xs ∧ xs ≠ [] ∧ xs.length ≤ 900 ∧ Nums C H xs ps ∧ ∀ q H', Same H H' → RatAt C H' q (foldP pickG ps).1 (foldP pickG ps).2 → Q (.ref q) H'
theorem ok_greatest (T : Txt K mg) : FnOk P w K mg base CX0 6 T.f_greatest T.d_greatest ["values"] (spGreat K T.f_Ratio) := by
  have G_least : FnOk P w K mg base CX0 5 T.f_least T.d_least ["values"] (spLeast K T.f_Ratio) := ok_least T
  have G_Ratio_neg : FnOk P w K mg base CX0 3 T.f_Ratio_neg T.d_Ratio_neg ["self"] (spNeg T.f_Ratio) := ok_neg T
  refine T.F_greatest.ok sc_greatest (fun vs H Q E h => ?_) (fun cdv A outer s H vs Q E hr h => ?_)
  · obtain ⟨l, xs, ps, rfl, _⟩ := h
    rfl
  · obtain ⟨l, xs, ps, rfl, hS, hx, hlen, n, k⟩ := h
    refine ⟨_, (pss_one (ps_ret (pe_un (un_negO T.a_Ratio_neg T.i_Ratio_neg G_Ratio_neg (hr.mono (by decide)) T.b_Ratio_neg pass0) (pe_call G_least (hr.mono (by decide)) rfl T.m_least T.F_least.kp T.b_least .nil pass0 (pa_cons (pe_lc (own := [("value", 1)]) (g := gName 1) (tt := tYes) rfl sc_greatest.nd (pi_seq (pv 0)) (blkOk_by (N := ["values", "value"]) (sc := defScope s_greatest) (by decide +kernel)) (fun _ _ _ _ _ => pg_name (i := 1) sc_greatest.nd rfl (Or.inl rfl)) (fun _ _ _ _ _ => pts_nil) (fun _ _ _ _ _ => (pe_un (un_or un_neg (un_negO T.a_Ratio_neg T.i_Ratio_neg G_Ratio_neg (hr.mono (by decide)) T.b_Ratio_neg pass0)) (pv 1)))) pa_nil))))), ?_⟩
    have hps : ps ≠ [] := fun e => hx (List.length_eq_zero_iff.mp (by rw [n.len, e]; rfl))
    have turn : ∀ D, H D = none → ∀ i x H1, xs[i]? = some x → (∃ ys, H1 D = some (.lst ys) ∧ ys.length = i ∧ Nums T.f_Ratio H1 ys ((ps.take i).map ngP) ∧ Same H H1) → ∃ p : Int × Int, Num T.f_Ratio H1 x p.1 p.2 ∧ Fine p ∧
        ∀ H2 v, Same H1 H2 → Num T.f_Ratio H2 v (ngP p).1 (ngP p).2 → ∃ acc, H2 D = some (.lst acc) ∧ acc.length < sizeLine ∧ (∃ ys, (upd H2 D (.lst (acc ++ [v]))) D = some (.lst ys) ∧ ys.length = i + 1 ∧ Nums T.f_Ratio (upd H2 D (.lst (acc ++ [v]))) ys ((ps.take (i + 1)).map ngP) ∧ Same H (upd H2 D (.lst (acc ++ [v])))) := by
      rintro D hD i x H1 hi ⟨ys, eD, ly, nys, sm⟩
      obtain ⟨p, hp, np, fp⟩ := (n.on sm).get hi
      refine ⟨p, np, fp, fun H2 v s2 nv => ⟨ys, s2 _ _ eD, ?_, ys ++ [v], upd_same, by rw [List.length_append, ly]; rfl, ?_, same_mut (sm.trans s2) hD⟩⟩
      · have := (List.getElem?_eq_some_iff.mp hi).1
        exact small1000 (by omega)
      · rw [take_more hp, List.map_append]
        exact ((nys.on s2).snoc nv fp.ng).put (s2 _ _ eD)
    have fin : ∀ D H1, (∃ ys, H1 D = some (.lst ys) ∧ ys.length = xs.length ∧ Nums T.f_Ratio H1 ys ((ps.take xs.length).map ngP) ∧ Same H H1) → ∃ ys, SqA K H1 D ys ∧ ys ≠ [] ∧ Nums T.f_Ratio H1 ys (ps.map ngP) ∧ Same H H1 := by
      rintro D H1 ⟨ys, eD, ly, nys, sm⟩
      rw [n.len, List.take_length] at nys
      refine ⟨ys, .inl (SqL.of eD), fun e => hx (List.length_eq_zero_iff.mp (by rw [← ly, e]; rfl)), nys, sm⟩
    have hfl : Fine (foldP pick (ps.map ngP)) := fine_least (fun e => hps (List.map_eq_nil_iff.mp e)) fun v hv => by
      obtain ⟨u, hu, rfl⟩ := List.mem_map.mp hv
      exact (n.fine u hu).ng
    have back : ∀ q H', Same H H' → RatAt T.f_Ratio H' q (-(foldP pick (ps.map ngP)).1) (foldP pick (ps.map ngP)).2 → Q (.ref q) H' := fun q H' s r => by
      rw [least_neg hps] at r
      have e : -(ngP (foldP pickG ps)).1 = (foldP pickG ps).1 := Int.neg_neg _
      rw [e] at r
      exact k q H' s r
    rcases hS with hL | hT
    · refine ⟨_, rfl, l, rfl, .inl ⟨⟨_, hL⟩, fun D hD => ?_⟩⟩
      refine lc_list (K := K) (a := l) (xs := xs) (fun i H1 => ∃ ys, H1 D = some (.lst ys) ∧ ys.length = i ∧ Nums T.f_Ratio H1 ys ((ps.take i).map ngP) ∧ Same H H1) ⟨[], upd_same, rfl, Nums.nil, same_upd hD⟩ (fun i H1 _ ⟨_, _, _, _, sm⟩ => sm.seq hL) ?_ ?_
      · intro i x H1 hi hP
        obtain ⟨p, np, fp, go⟩ := turn D hD i x H1 hi hP
        rcases np with ⟨rfl, e1⟩ | ⟨q, rfl, rq⟩
        · exact ⟨rfl, _, rfl, .inl ⟨p.1, rfl, go H1 _ (Same.refl _) (.inl ⟨rfl, e1⟩)⟩⟩
        · obtain ⟨dq, hq⟩ := id rq
          exact ⟨rfl, _, rfl, .inr ⟨q, dq, _, rfl, hq, q, p.1, p.2, rfl, rq, fp.1, fp.2.2, fun o H2 no s2 ro => go H2 _ s2 (.inr ⟨o, rfl, ro⟩)⟩⟩
      · intro H1 hP
        obtain ⟨ys, hA, hy, nys, sm⟩ := fin D H1 hP
        refine ⟨D, ys, ps.map ngP, rfl, hA, hy, nys, fun q H2 s2 r2 => ?_⟩
        obtain ⟨d2, h2⟩ := id r2
        exact ⟨q, d2, _, rfl, h2, q, _, _, rfl, r2, hfl.1, hfl.2.2, fun o H3 no s3 ro => back o H3 ((sm.trans s2).trans s3) ro⟩
    · refine ⟨_, rfl, l, rfl, .inr ⟨⟨_, hT⟩, fun D hD => ?_⟩⟩
      refine lc_tup (K := K) (a := l) (xs := xs) (fun i H1 => ∃ ys, H1 D = some (.lst ys) ∧ ys.length = i ∧ Nums T.f_Ratio H1 ys ((ps.take i).map ngP) ∧ Same H H1) ⟨[], upd_same, rfl, Nums.nil, same_upd hD⟩ (fun i H1 _ ⟨_, _, _, _, sm⟩ => hT.ext sm) ?_ ?_
      · intro i x H1 hi hP
        obtain ⟨p, np, fp, go⟩ := turn D hD i x H1 hi hP
        rcases np with ⟨rfl, e1⟩ | ⟨q, rfl, rq⟩
        · exact ⟨rfl, _, rfl, .inl ⟨p.1, rfl, go H1 _ (Same.refl _) (.inl ⟨rfl, e1⟩)⟩⟩
        · obtain ⟨dq, hq⟩ := id rq
          exact ⟨rfl, _, rfl, .inr ⟨q, dq, _, rfl, hq, q, p.1, p.2, rfl, rq, fp.1, fp.2.2, fun o H2 no s2 ro => go H2 _ s2 (.inr ⟨o, rfl, ro⟩)⟩⟩
      · intro H1 hP
        obtain ⟨ys, hA, hy, nys, sm⟩ := fin D H1 hP
        refine ⟨D, ys, ps.map ngP, rfl, hA, hy, nys, fun q H2 s2 r2 => ?_⟩
        obtain ⟨d2, h2⟩ := id r2
        exact ⟨q, d2, _, rfl, h2, q, _, _, rfl, r2, hfl.1, hfl.2.2, fun o H3 no s3 ro => back o H3 ((sm.trans s2).trans s3) ro⟩
end

/-! ### pairs of ints -/
section
variable {P : Program} {w : World} {K : PySem.W.Frag} {mg : Str → Option Value} {base : Heap}
def PairAt (H : Hp) (q : Addr) (t b : Int) : Prop := H q = some (.tup [.int t, .int b])
def ResP (H : Hp) (x y : Int) (Q : VK) : Prop := ∀ o H', H o = none → Same H H' → PairAt H' o (lowT x y) (lowB x y) → Q (.ref o) H'
def spPlus : Sp := fun vs H Q _ => ∃ (q q' : Addr) (t b t' b' : Int), vs = [.ref q, .ref q'] ∧ PairAt H q t b ∧ PairAt H q' t' b' ∧ SM t ∧ SM b ∧ SM t' ∧ SM b' ∧ b ≠ 0 ∧ b' ≠ 0 ∧ ResP H (t * b' + t' * b) (b * b') Q
def spTimes : Sp := fun vs H Q _ => ∃ (q q' : Addr) (t b t' b' : Int), vs = [.ref q, .ref q'] ∧ PairAt H q t b ∧ PairAt H q' t' b' ∧ SM t ∧ SM b ∧ SM t' ∧ SM b' ∧ b ≠ 0 ∧ b' ≠ 0 ∧ ResP H (t * t') (b * b') Q
def spLess : Sp := fun vs H Q _ => ∃ (q q' : Addr) (t b t' b' : Int), vs = [.ref q, .ref q'] ∧ PairAt H q t b ∧ PairAt H q' t' b' ∧ SM t ∧ SM b ∧ SM t' ∧ SM b' ∧ Q (.bl (decide (t * b' < t' * b))) H
end

section
variable {P : Program} {w : World} {K : PySem.W.Frag} {mg : Str → Option Value} {base : Heap}
theorem ok_less (T : Txt K mg) : FnOk P w K mg base CX0 1 T.f_less T.d_less ["_law_one", "_law_two"] spLess := by
  refine T.F_less.ok sc_less (fun vs H Q E h => ?_) (fun cdv A outer s H vs Q E hr h => ?_)
  · obtain ⟨q, q', t, b, t', b', rfl, _⟩ := h
    rfl
  · obtain ⟨q, q', t, b, t', b', rfl, hq, hq', ht, hb, ht', hb', k⟩ := h
    refine ⟨_, (pss_one (ps_ret (pe_cmpR op_lt (pe_op op_mulW (pe_ix ix_tup (pv 0) pe_int (fun _ _ => rfl)) (pe_ix ix_tup (pv 1) pe_int (fun _ _ => rfl))) (pe_op op_mulW (pe_ix ix_tup (pv 1) pe_int (fun _ _ => rfl)) (pe_ix ix_tup (pv 0) pe_int (fun _ _ => rfl))) (nomark _)))), ?_⟩
    refine ⟨_, rfl, q, _, 0, .int t, rfl, rfl, SqT.of hq, rfl, _, rfl, q', _, 1, .int b', rfl, rfl, SqT.of hq', rfl, _, _, rfl, rfl, sm_mul ht hb', ?_⟩
    exact ⟨_, rfl, q', _, 0, .int t', rfl, rfl, SqT.of hq', rfl, _, rfl, q, _, 1, .int b, rfl, rfl, SqT.of hq, rfl, _, _, rfl, rfl, sm_mul ht' hb, _, _, rfl, rfl, k⟩
end

/-! ### BadCount, raised by least and greatest -/
section
variable {P : Program} {w : World} {K : PySem.W.Frag} {mg : Str → Option Value} {base : Heap}
def spBc (C : Addr) : Sp := fun vs H Q _ => ∃ (a : Addr) (v : V), vs = [.ref a, v] ∧ H a = some (exo a C none) ∧ ∀ dx H', H dx = none → dx ≠ a → H' = upd (upd H dx (exd dx [("count", v)])) a (exo a C (some dx)) → Q .non H'
theorem ok_bc (T : Txt K mg) : FnOk P w K mg base CX0 1 T.f_BadCount_init T.d_BadCount_init ["self", "count"] (spBc T.f_BadCount) := by
  refine T.F_BadCount_init.ok sc_BadCount_init (fun vs H Q E h => ?_) (fun cdv A outer s H vs Q E hr h => ?_)
  · obtain ⟨a, v, rfl, _⟩ := h
    rfl
  · obtain ⟨a, v, rfl, ha, k⟩ := h
    refine ⟨_, (pss_one (ps_ost (pv 0) (pv 1))), ?_⟩
    exact ⟨_, rfl, _, rfl, a, T.f_BadCount, rfl, T.ox_BadCount, T.no_BadCount_count, .inl ⟨ha, fun dx nd ne => k dx _ nd ne rfl⟩⟩
/-- of no values -/
def spNone (K : PySem.W.Frag) (D : Addr) : Sp := fun vs H _ E => ∃ l : Addr, vs = [.ref l] ∧ SqA K H l [] ∧ ∀ d H', H d = none → Same H H' → H' d = some (.xd [("count", .int 0)]) → E (.ref D) (some d) H'
theorem ok_leastX (T : Txt K mg) : FnOk P w K mg base (L2.CX P w) 6 T.f_least T.d_least ["values"] (spNone K T.f_BadCount) := by
  have G_as_ratio : FnOk P w K mg base CX0 3 T.f_as_ratio T.d_as_ratio ["value"] (spNum T.f_Ratio) := ok_asN T
  have G_Ratio_below : FnOk P w K mg base CX0 4 T.f_Ratio_below T.d_Ratio_below ["self", "value"] (spBelow T.f_Ratio) := ok_below T
  have G_BadCount_init : FnOk P w K mg base CX0 1 T.f_BadCount_init T.d_BadCount_init ["self", "count"] (spBc T.f_BadCount) := ok_bc T
  refine T.F_least.okX sc_least (fun vs H Q E h => ?_) (fun cdv A outer s H vs Q E hr h => ?_)
  · obtain ⟨l, rfl, _⟩ := h
    rfl
  · obtain ⟨l, rfl, hS, k⟩ := h
    refine ⟨_, (pss_cons (ps_if (pt_cmpR op_eq (pe_callB call_len_seq (by rfl) T.n_len (by decide +kernel) (pa_cons (pv 0) pa_nil)) pe_int (nomark _))
      (pss_one (ps_raise rfl (takes_of rfl rfl rfl rfl) (pmk_oex T.ox_BadCount T.ix_BadCount T.tx_BadCount G_BadCount_init (hr.mono (by decide)) T.b_BadCount_init .nil pass0 rfl T.m_BadCount (pa_cons pe_int pa_nil))))
      pss_nil)
    (pss_cons (ps_set (i := 1) sc_least.nd rfl (Or.inl rfl) (pe_call G_as_ratio (hr.mono (by decide)) rfl T.m_as_ratio T.F_as_ratio.kp T.b_as_ratio .nil pass0 (pa_cons (pe_ix (ix_or ix_list ix_tup) (pv 0) pe_int (fun _ _ => rfl)) pa_nil)))
    (C8.pss_cut (ps_for (passes_of rfl) rfl (pi_seq (pe_slice (sl_list.or sl_tupA) (pv 0) (po_some pe_int) po_none)) (pg_name (i := 2) sc_least.nd rfl (Or.inl rfl))
      (pss_cons (ps_set (i := 3) sc_least.nd rfl (Or.inl rfl) (pe_call G_as_ratio (hr.mono (by decide)) rfl T.m_as_ratio T.F_as_ratio.kp T.b_as_ratio .nil pass0 (pa_cons (pv 2) pa_nil)))
    (pss_one (ps_if (pt_val (pe_meth (pv 3) T.cl_Ratio T.me_Ratio_below G_Ratio_below (hr.mono (by decide)) T.b_Ratio_below .nil pass0 (pa_cons (pv 1) pa_nil)))
      (pss_one (ps_set (i := 1) sc_least.nd rfl (Or.inl rfl) (pv 3)))
      pss_nil))))
    (pss_one (ps_ret (pv 1)))))), ?_⟩
    refine ⟨_, rfl, l, [], rfl, hS, rfl, _, rfl, iteT ?_⟩
    refine ⟨by decide, fun a na => ?_⟩
    refine ⟨a, .int 0, rfl, upd_same, fun d H' nd ne e => ⟨rfl, d, [("count", .int 0)], ?_, ?_, ?_, ?_⟩⟩
    · rw [e]; exact upd_same
    · rw [e, upd_ne ne]; exact upd_same
    · rw [upd_ne ne] at nd; exact nd
    · rw [upd_ne ne] at nd
      refine k d _ nd (fun b o hb => ?_) upd_same
      have n1 : b ≠ d := ne_of_none hb nd
      have n2 : b ≠ a := ne_of_none hb na
      rw [upd_ne n1, del_ne n2, e, upd_ne n2, upd_ne n1, upd_ne n2]
      exact hb
theorem ok_greatestX (T : Txt K mg) : FnOk P w K mg base (L2.CX P w) 8 T.f_greatest T.d_greatest ["values"] (spNone K T.f_BadCount) := by
  have GX_least : FnOk P w K mg base (L2.CX P w) 6 T.f_least T.d_least ["values"] (spNone K T.f_BadCount) := ok_leastX T
  have G_Ratio_neg : FnOk P w K mg base CX0 3 T.f_Ratio_neg T.d_Ratio_neg ["self"] (spNeg T.f_Ratio) := ok_neg T
  refine T.F_greatest.okX sc_greatest (fun vs H Q E h => ?_) (fun cdv A outer s H vs Q E hr h => ?_)
  · obtain ⟨l, rfl, _⟩ := h
    rfl
  · obtain ⟨l, rfl, hS, k⟩ := h
    refine ⟨_, (pss_one (ps_ret (pe_un (un_negO T.a_Ratio_neg T.i_Ratio_neg G_Ratio_neg (hr.mono (by decide)) T.b_Ratio_neg pass0) (pe_call GX_least (hr.mono (by decide)) rfl T.m_least T.F_least.kp T.b_least .nil (passX (takes_of rfl rfl rfl rfl)) (pa_cons (pe_lc (own := [("value", 1)]) (g := gName 1) (tt := tYes) rfl sc_greatest.nd (pi_seq (pv 0)) (blkOk_by (N := ["values", "value"]) (sc := defScope s_greatest) (by decide +kernel)) (fun _ _ _ _ _ => pg_name (i := 1) sc_greatest.nd rfl (Or.inl rfl)) (fun _ _ _ _ _ => pts_nil) (fun _ _ _ _ _ => (pe_un (un_or un_neg (un_negO T.a_Ratio_neg T.i_Ratio_neg G_Ratio_neg (hr.mono (by decide)) T.b_Ratio_neg pass0)) (pv 1)))) pa_nil))))), ?_⟩
    rcases hS with hL | hT
    · refine ⟨_, rfl, l, rfl, .inl ⟨⟨_, hL⟩, fun D hD => ?_⟩⟩
      refine lc_list (K := K) (a := l) (xs := []) (fun i H1 => H1 D = some (.lst []) ∧ Same H H1) ⟨upd_same, same_upd hD⟩ (fun i H1 _ ⟨_, sm⟩ => sm.seq hL) (fun i x H1 hi => by simp at hi) ?_
      intro H1 ⟨eD, sm⟩
      exact ⟨D, rfl, .inl (SqL.of eD), fun d H' nd s hd => k d H' (sm.free nd) (sm.trans s) hd⟩
    · refine ⟨_, rfl, l, rfl, .inr ⟨⟨_, hT⟩, fun D hD => ?_⟩⟩
      refine lc_tup (K := K) (a := l) (xs := []) (fun i H1 => H1 D = some (.lst []) ∧ Same H H1) ⟨upd_same, same_upd hD⟩ (fun i H1 _ ⟨_, sm⟩ => hT.ext sm) (fun i x H1 hi => by simp at hi) ?_
      intro H1 ⟨eD, sm⟩
      exact ⟨D, rfl, .inl (SqL.of eD), fun d H' nd s hd => k d H' (sm.free nd) (sm.trans s) hd⟩
def spRef : Sp := fun vs H Q _ => vs = [] ∧ ∀ H', Q (.bl true) H'
theorem ok_refused (T : Txt K mg) : FnOk P w K mg base CX0 10 T.f_refused T.d_refused [] spRef := by
  have GX_least : FnOk P w K mg base (L2.CX P w) 6 T.f_least T.d_least ["values"] (spNone K T.f_BadCount) := ok_leastX T
  have GX_greatest : FnOk P w K mg base (L2.CX P w) 8 T.f_greatest T.d_greatest ["values"] (spNone K T.f_BadCount) := ok_greatestX T
  refine T.F_refused.ok sc_refused (fun vs H Q E h => ?_) (fun cdv A outer s H vs Q E hr h => ?_)
  · obtain ⟨rfl, _⟩ := h
    rfl
  · obtain ⟨rfl, k⟩ := h
    refine ⟨_, (pss_cons (ps_set (i := 0) sc_refused.nd rfl (Or.inl rfl) pe_int)
    (C8.pss_cut (ps_for PassesOwn.never rfl (pi_list (pe_lst (pa_cons (pe_lst pa_nil) (pa_cons (pe_tup pa_nil) pa_nil)))) (pg_name (i := 1) sc_refused.nd rfl (Or.inl rfl))
      (C8.pss_cut (ps_try_as (i := 2) rfl rfl sc_refused.nd rfl rfl ⟨rfl, by decide, .inl T.m_BadCount⟩ takes0 (fun W pn xe tk _ =>
      (pss_one (ps_expr (pe_callS GX_least (hr.mono (by decide)) rfl T.m_least T.F_least.kp T.b_least (fun σ => passAt tk σ) (pa_cons (pv 1) pa_nil))))) (fun a oe cls d pn hz hf =>
      (pss_one (ps_set (i := 0) sc_refused.nd rfl (Or.inl rfl) (pe_op op_add (pv 0) (pe_callTy call_int1 (by rfl) T.n_int (by decide +kernel) (pa_cons (pe_and (pe_cmpR op_eq (pe_xf T.xf_BadCount T.no_BadCount_count hz hf (pv 2)) pe_int (nomark _)) (pe_one (pe_callB (call_isEd T.ec_BadCount hz hf) (by rfl) T.n_isinstance (by decide +kernel) (pa_cons (pv 2) (pa_cons (pe_glob (v := .ref T.f_ExtralinkError) rfl T.m_ExtralinkError rfl) pa_nil))))) pa_nil)))))))
    (pss_one (ps_try_as (i := 2) rfl rfl sc_refused.nd rfl rfl ⟨rfl, by decide, .inl T.m_BadCount⟩ takes0 (fun W pn xe tk _ =>
      (pss_one (ps_expr (pe_callK0S GX_greatest (hr.mono (by decide)) rfl T.m_greatest T.F_greatest.kp T.kb_greatest_0_values (fun σ => passAt tk σ) (pk_cons (pv 1) pk_nil))))) (fun a oe cls d pn hz hf =>
      (pss_one (ps_set (i := 0) sc_refused.nd rfl (Or.inl rfl) (pe_op op_add (pv 0) (pe_callTy call_int1 (by rfl) T.n_int (by decide +kernel) (pa_cons (pe_and (pe_cmpR op_eq (pe_xf T.xf_BadCount T.no_BadCount_count hz hf (pv 2)) pe_int (nomark _)) (pe_one (pe_callB (call_isEd T.ec_BadCount hz hf) (by rfl) T.n_isinstance (by decide +kernel) (pa_cons (pv 2) (pa_cons (pe_glob (v := .ref T.f_ExtralinkError) rfl T.m_ExtralinkError rfl) pa_nil))))) pa_nil))))))))))
    (pss_one (ps_ret (pe_cmpR op_eq (pv 0) pe_int (nomark _)))))), ?_⟩
    refine ⟨fun σ H' => ∃ x1 x2, σ = [some (.int 4), x1, x2], ?_, ?_⟩
    · refine ⟨Nat.zero_le _, fun p hp => ⟨Nat.zero_le _, fun q hq => ⟨by show 2 ≤ sizeLine; decide, fun l hl => ?_⟩⟩⟩
      refine ⟨l, rfl, ⟨_, SqL.of upd_same⟩, ?_⟩
      refine for_list (xs := [V.ref p, V.ref q]) (fun i σ H' => ∃ x1 x2, σ = [some (.int (2 * (i : Int))), x1, x2] ∧ Same (upd (upd (upd H p (.lst [])) q (.tup [])) l (.lst [V.ref p, V.ref q])) H') ⟨_, _, rfl, Same.refl _⟩ (fun i σ H' _ ⟨_, _, _, s⟩ => SqL.of (s _ _ upd_same)) ?_ (fun σ H' ⟨x1, x2, e, _⟩ => ⟨x1, x2, e⟩)
      rintro i x σ H' hi ⟨x1, x2, rfl, s0⟩
      obtain ⟨g, rfl, hg⟩ : ∃ g, x = .ref g ∧ SqA K H' g [] := by
        have hi' := (List.getElem?_eq_some_iff.mp hi).1
        match i, hi with
        | 0, hi =>
          have e : V.ref p = x := Option.some.inj hi
          exact ⟨p, e.symm, .inl (SqL.of (s0 _ _ (same_upd hl _ _ (same_upd hq _ _ upd_same))))⟩
        | 1, hi =>
          have e : V.ref q = x := Option.some.inj hi
          exact ⟨q, e.symm, .inr (SqT.of (s0 _ _ (same_upd hl _ _ upd_same)))⟩
      refine ⟨fun σ H2 => ∃ x2, σ = [some (.int (2 * (i : Int) + 1)), some (.ref g), x2] ∧ Same H' H2, ?_, ?_⟩
      · refine ⟨_, rfl, g, rfl, hg, fun d H2 nd st hd => ?_⟩
        refine ⟨true, PySem.W.exm_ref T.ec_BadCount.hs T.ec_BadCount.hd T.ox_BadCount.tyC T.es_BadCount_BadCount, fun _ a na => ?_, fun q => nomatch q⟩
        refine ⟨_, rfl, _, rfl, rfl, rfl, d, _, _, rfl, hd, rfl, rfl, true, by decide, iteT ?_⟩
        refine ⟨_, rfl, .ref T.f_ExtralinkError, .ref T.f_ExtralinkError, true, d, _, rfl, rfl, rfl, .own _, kit_sub T.xi_BadCount_ExtralinkError T.xt_BadCount_ExtralinkError T.es_BadCount_ExtralinkError T.neq_BadCount_ExtralinkError, hd, .inr ⟨true, rfl, _, _, rfl, rfl, ?_⟩⟩
        exact ⟨none, rfl, st⟩
      rintro σ H2 ⟨x2', rfl, s2⟩
      refine ⟨_, rfl, g, rfl, hg.elim (fun h => .inl (s2.seq h)) (fun h => .inr (h.ext s2)), fun d H3 nd st hd => ?_⟩
      refine ⟨true, PySem.W.exm_ref T.ec_BadCount.hs T.ec_BadCount.hd T.ox_BadCount.tyC T.es_BadCount_BadCount, fun _ a na => ?_, fun q => nomatch q⟩
      refine ⟨_, rfl, _, rfl, rfl, rfl, d, _, _, rfl, hd, rfl, rfl, true, by decide, iteT ?_⟩
      refine ⟨_, rfl, .ref T.f_ExtralinkError, .ref T.f_ExtralinkError, true, d, _, rfl, rfl, rfl, .own _, kit_sub T.xi_BadCount_ExtralinkError T.xt_BadCount_ExtralinkError T.es_BadCount_ExtralinkError T.neq_BadCount_ExtralinkError, hd, .inr ⟨true, rfl, _, _, rfl, rfl, ?_⟩⟩
      have e : (2 * ((i + 1 : Nat) : Int)) = 2 * (i : Int) + 1 + 1 := by omega
      rw [e]
      exact ⟨some (.ref g), none, rfl, (s0.trans s2).trans st⟩
    · rintro σ H' ⟨x1, x2, rfl⟩
      exact ⟨_, rfl, rfl, k H'⟩
end

/-! ### values, the law's own least and greatest -/
section
variable {P : Program} {w : World} {K : PySem.W.Frag} {mg : Str → Option Value} {base : Heap}
theorem PairAt.on {H H' : Hp} {q : Addr} {t b : Int} (p : PairAt H q t b) (s : Same H H') : PairAt H' q t b := s _ _ p
theorem int_eq {a b : Int} (h : decide (V.int a = V.int b) = true) : a = b := by
  have := of_decide_eq_true h
  injection this
def spValue (C : Addr) : Sp := fun vs H Q _ => ∃ (st q : Addr) (t b : Int) (G : Hp) (m : Nat), vs = [.ref st, .ref q] ∧ PairAt G q t b ∧ Fine (t, b) ∧ DSt G H st m ∧ m + 2 < 1000000 ∧ ∀ v H', Num C H' v t b → (∀ p, v = .ref p → ∀ xs, H' p ≠ some (.lst xs)) → DSt G H' st (m + 2) → Q v H'
theorem ok_value (T : Txt K mg) : FnOk P w K mg base CX0 3 T.f_value T.d_value ["_law_state", "_law_pair"] (spValue T.f_Ratio) := by
  have G_draw : FnOk P w K mg base CX0 1 T.f_draw T.d_draw ["_law_state", "_law_size"] spDraw := ok_draw T
  have G_Ratio_init : FnOk P w K mg base CX0 1 T.f_Ratio_init T.d_Ratio_init ["self", "top", "bottom"] (spInit T.f_Ratio) := ok_init T
  refine T.F_value.ok sc_value (fun vs H Q E h => ?_) (fun cdv A outer s H vs Q E hr h => ?_)
  · obtain ⟨st, q, t, b, G, m, rfl, _⟩ := h
    rfl
  · obtain ⟨st, q, t, b, G, m, rfl, pq, hf, d, hm, k⟩ := h
    refine ⟨_, (C8.pss_cut (ps_if (PW.pt (pw_and (pt_cmpR op_eq (pe_ix ix_tup (pv 1) pe_int (fun _ _ => rfl)) pe_int (nomark _)) (pw_and1 (pt_cmpR op_eq (pe_call G_draw (hr.mono (by decide)) rfl T.m_draw T.F_draw.kp T.b_draw .nil pass0 (pa_cons (pv 0) (pa_cons pe_int pa_nil))) pe_int (nomark _)))))
      (pss_one (ps_ret (pe_ix ix_tup (pv 1) pe_int (fun _ _ => rfl))))
      pss_nil)
    (pss_cons (ps_set (i := 2) sc_value.nd rfl (Or.inl rfl) (pe_op op_add pe_int (pe_call G_draw (hr.mono (by decide)) rfl T.m_draw T.F_draw.kp T.b_draw .nil pass0 (pa_cons (pv 0) (pa_cons pe_int pa_nil)))))
    (pss_one (ps_ret (pe_make T.mk_Ratio G_Ratio_init (hr.mono (by decide)) rfl T.m_Ratio T.b2_Ratio_init T.v2_Ratio_init pass0 (pa_cons (pe_op op_mulW (pe_ix ix_tup (pv 1) pe_int (fun _ _ => rfl)) (pv 2)) (pa_cons (pe_op op_mulW (pe_ix ix_tup (pv 1) pe_int (fun _ _ => rfl)) (pv 2)) pa_nil))))))), ?_⟩
    refine ⟨fun σ H' => σ = [some (.ref st), some (.ref q), none] ∧ DSt G H' st (m + 1), ?_, ?_⟩
    · refine ⟨_, rfl, q, _, 1, .int b, rfl, rfl, SqT.of (pq.on d.same), rfl, rfl, _, rfl, ite2 (fun hb => ?_) fun _ => ⟨rfl, d.mono (by omega)⟩⟩
      refine ⟨_, rfl, G, st, m, 2, rfl, d, by omega, by decide, by decide, fun r H1 _ _ d1 => ?_⟩
      refine ⟨rfl, _, rfl, ite2 (fun _ => ?_) fun _ => ⟨rfl, d1⟩⟩
      exact ⟨_, rfl, q, _, 0, .int t, rfl, rfl, SqT.of (pq.on d1.same), rfl, k _ _ (.inl ⟨rfl, int_eq hb⟩) (fun p z => nomatch z) (d1.mono (by omega))⟩
    rintro σ H1 ⟨rfl, d1⟩
    refine ⟨_, rfl, G, st, m + 1, 3, rfl, d1, by omega, by decide, by decide, fun r H2 r0 r1 d2 => ?_⟩
    refine ⟨_, _, rfl, rfl, ?_⟩
    have hr1 : SM (1 + r) := Nat.lt_of_lt_of_le (show (1 + r).natAbs < 100 by omega) (by decide +kernel)
    have hz : (1 + r) ≠ 0 := by omega
    have p2 := pq.on d2.same
    refine ⟨_, rfl, q, _, 0, .int t, rfl, rfl, SqT.of p2, rfl, _, rfl, _, _, rfl, rfl, sm_mul hf.2.1 hr1, ?_⟩
    refine ⟨_, rfl, q, _, 1, .int b, rfl, rfl, SqT.of p2, rfl, _, rfl, _, _, rfl, rfl, sm_mul hf.2.2 hr1, ?_⟩
    refine fun x dx nx ndx ne => ⟨x, dx, t * (1 + r), b * (1 + r), rfl, upd_same, Int.mul_ne_zero hf.1.ne hz, big_mul hf.2.2 hr1, fun H3 r3 e3 => ⟨rfl, ?_⟩⟩
    have s3 := Same.made nx ndx e3
    have ls := low_scale (k := 1 + r) (t := t) (b := b) hz hf.1.ne
    rw [Int.mul_comm (1 + r) t, Int.mul_comm (1 + r) b] at ls
    have ht : lowT t b = t := hf.1.tt
    have hb : lowB t b = b := hf.1.bb
    rw [ls.1, ls.2, ht, hb] at r3
    refine k _ _ (.inr ⟨x, rfl, r3⟩) (fun p z xs e => ?_) ((d2.on s3).mono (by omega))
    injection z with z
    obtain ⟨d0, h0⟩ := r3
    rw [← z, h0] at e
    cases e
/-- the pairs, as they stand -/
structure PairsAt (H : Hp) (l : Addr) (qs : List Addr) (ps : List (Int × Int)) : Prop where
  hl : H l = some (.lst (qs.map V.ref))
  len : qs.length = ps.length
  at_ : ∀ (i : Nat) (q : Addr) (p : Int × Int), qs[i]? = some q → ps[i]? = some p → PairAt H q p.1 p.2
  fine : ∀ p ∈ ps, Fine p
theorem PairsAt.on {H H' : Hp} {l : Addr} {qs : List Addr} {ps : List (Int × Int)} (g : PairsAt H l qs ps) (s : Same H H') : PairsAt H' l qs ps := ⟨s _ _ g.hl, g.len, fun i q p a b => (g.at_ i q p a b).on s, g.fine⟩
theorem PairsAt.get {H : Hp} {l : Addr} {qs : List Addr} {ps : List (Int × Int)} (g : PairsAt H l qs ps) {i : Nat} {x : V} (h : (qs.map V.ref)[i]? = some x) : ∃ q p, x = .ref q ∧ qs[i]? = some q ∧ ps[i]? = some p ∧ PairAt H q p.1 p.2 ∧ Fine p := by
  rw [List.getElem?_map] at h
  cases e : qs[i]? with
  | none => rw [e] at h; cases h
  | some q =>
    rw [e] at h
    have hi : i < ps.length := by rw [← g.len]; exact (List.getElem?_eq_some_iff.mp e).1
    exact ⟨q, ps[i], (Option.some.inj h).symm, rfl, List.getElem?_eq_getElem hi, g.at_ i q _ e (List.getElem?_eq_getElem hi), g.fine _ (List.getElem_mem hi)⟩
def pickT (turn : Nat) (m v : Int × Int) : Int × Int := if turn = 0 then pick m v else pickG m v
theorem fold_head {f : Int × Int → Int × Int → Int × Int} (h : ∀ v, f v v = v) {v : Int × Int} {r : List (Int × Int)} : (v :: r).foldl f v = r.foldl f v := by rw [List.foldl_cons, h]
theorem pick_self (v : Int × Int) : pick v v = v := by unfold pick; split <;> rfl
theorem pickG_self (v : Int × Int) : pickG v v = v := by unfold pickG; split <;> rfl
def spExtreme : Sp := fun vs H Q _ => ∃ (l : Addr) (qs : List Addr) (ps : List (Int × Int)) (turn : Nat), vs = [.ref l, .int (turn : Int)] ∧ turn < 2 ∧ PairsAt H l qs ps ∧ ps ≠ [] ∧ ∀ q H', Same H H' → PairAt H' q (foldP (pickT turn) ps).1 (foldP (pickT turn) ps).2 → Q (.ref q) H'
theorem ok_extreme (T : Txt K mg) : FnOk P w K mg base CX0 2 T.f_extreme T.d_extreme ["_law_pairs", "_law_turn"] spExtreme := by
  have G_less : FnOk P w K mg base CX0 1 T.f_less T.d_less ["_law_one", "_law_two"] spLess := ok_less T
  refine T.F_extreme.ok sc_extreme (fun vs H Q E h => ?_) (fun cdv A outer s H vs Q E hr h => ?_)
  · obtain ⟨l, qs, ps, turn, rfl, _⟩ := h
    rfl
  · obtain ⟨l, qs, ps, turn, rfl, ht, g, hne, k⟩ := h
    refine ⟨_, (pss_cons (ps_set (i := 2) sc_extreme.nd rfl (Or.inl rfl) (pe_ix ix_list (pv 0) pe_int (fun _ _ => rfl)))
    (C8.pss_cut (ps_for PassesOwn.never rfl (pi_list (pv 0)) (pg_name (i := 3) sc_extreme.nd rfl (Or.inl rfl))
      (pss_one (ps_if (pt_val (pe_call G_less (hr.mono (by decide)) rfl T.m_less T.F_less.kp T.b_less .nil pass0 (pa_cons (pe_ix ix_list (pe_lst (pa_cons (pv 3) (pa_cons (pv 2) pa_nil))) (pv 1) (fun _ _ => rfl)) (pa_cons (pe_ix ix_list (pe_lst (pa_cons (pv 2) (pa_cons (pv 3) pa_nil))) (pv 1) (fun _ _ => rfl)) pa_nil))))
      (pss_one (ps_set (i := 2) sc_extreme.nd rfl (Or.inl rfl) (pv 3)))
      pss_nil)))
    (pss_one (ps_ret (pv 2))))), ?_⟩
    cases qs with
    | nil => have := g.len; cases ps with
      | nil => exact absurd rfl hne
      | cons => simp at this
    | cons q0 qr =>
    cases ps with
    | nil => exact absurd rfl hne
    | cons p0 pr =>
    have z2 : 2 ≤ sizeLine := by decide
    have f0 := g.fine p0 List.mem_cons_self
    refine ⟨_, rfl, l, _, 0, .ref q0, rfl, rfl, SqL.of g.hl, at0, ?_⟩
    refine ⟨fun σ H' => ∃ (q : Addr) (x3 : Option V), σ = [some (.ref l), some (.int (turn : Int)), some (.ref q), x3] ∧ Same H H' ∧ PairAt H' q (foldP (pickT turn) (p0 :: pr)).1 (foldP (pickT turn) (p0 :: pr)).2, ?_, ?_⟩
    · refine ⟨_, rfl, l, rfl, ⟨_, SqL.of g.hl⟩, ?_⟩
      refine for_list (xs := (q0 :: qr).map V.ref) (fun i σ H' => ∃ (q : Addr) (x3 : Option V), σ = [some (.ref l), some (.int (turn : Int)), some (.ref q), x3] ∧ Same H H' ∧ PairAt H' q (((p0 :: pr).take i).foldl (pickT turn) p0).1 (((p0 :: pr).take i).foldl (pickT turn) p0).2 ∧ Fine (((p0 :: pr).take i).foldl (pickT turn) p0)) ⟨q0, none, rfl, Same.refl H, g.at_ 0 q0 p0 rfl rfl, f0⟩ (fun i σ H' _ ⟨_, _, _, s, _⟩ => SqL.of (s _ _ g.hl)) ?_ ?_
      · rintro i x σ H' hi ⟨q, x3, rfl, s, pq, fq⟩
        obtain ⟨q1, p1, rfl, hq1, hp1, pa1, f1⟩ := (g.on s).get hi
        refine ⟨_, rfl, _, rfl, z2, fun l1 hl1 => ?_⟩
        have s1 := same_upd (o := .lst [V.ref q1, V.ref q]) hl1
        have e2 : turn = 0 ∨ turn = 1 := by omega
        generalize hM : ((p0 :: pr).take i).foldl (pickT turn) p0 = M at pq fq ⊢
        have nxt : ((p0 :: pr).take (i + 1)).foldl (pickT turn) p0 = pickT turn M p1 := by rw [fold_more hp1, hM]
        rw [nxt]
        rcases e2 with rfl | rfl
        · refine ⟨_, rfl, l1, _, 0, .ref q1, rfl, rfl, SqL.of upd_same, rfl, _, rfl, _, rfl, z2, fun l2 hl2 => ?_⟩
          have s2 := same_upd (o := .lst [V.ref q, V.ref q1]) hl2
          refine ⟨_, rfl, l2, _, 0, .ref q, rfl, rfl, SqL.of upd_same, rfl, q1, q, _, _, _, _, rfl, (pa1.on s1).on s2, (pq.on s1).on s2, f1.2.1, f1.2.2, fq.2.1, fq.2.2, _, rfl, ite2 (fun hb => ?_) fun hb => ?_⟩
          · have e : pickT 0 M p1 = p1 := if_pos (of_decide_eq_true hb)
            rw [e]
            exact ⟨_, rfl, q1, _, rfl, (s.trans s1).trans s2, (pa1.on s1).on s2, f1⟩
          · have e : pickT 0 M p1 = M := if_neg fun z => hb (decide_eq_true z)
            rw [e]
            exact ⟨q, _, rfl, (s.trans s1).trans s2, (pq.on s1).on s2, fq⟩
        · refine ⟨_, rfl, l1, _, 1, .ref q, rfl, rfl, SqL.of upd_same, rfl, _, rfl, _, rfl, z2, fun l2 hl2 => ?_⟩
          have s2 := same_upd (o := .lst [V.ref q, V.ref q1]) hl2
          refine ⟨_, rfl, l2, _, 1, .ref q1, rfl, rfl, SqL.of upd_same, rfl, q, q1, _, _, _, _, rfl, (pq.on s1).on s2, (pa1.on s1).on s2, fq.2.1, fq.2.2, f1.2.1, f1.2.2, _, rfl, ite2 (fun hb => ?_) fun hb => ?_⟩
          · have e : pickT 1 M p1 = p1 := if_pos (of_decide_eq_true hb)
            rw [e]
            exact ⟨_, rfl, q1, _, rfl, (s.trans s1).trans s2, (pa1.on s1).on s2, f1⟩
          · have e : pickT 1 M p1 = M := if_neg fun z => hb (decide_eq_true z)
            rw [e]
            exact ⟨q, _, rfl, (s.trans s1).trans s2, (pq.on s1).on s2, fq⟩
      · rintro σ H' ⟨q, x3, e, s, pq, fq⟩
        have el : ((p0 :: pr).take ((q0 :: qr).map V.ref).length).foldl (pickT turn) p0 = foldP (pickT turn) (p0 :: pr) := by
          rw [List.length_map, g.len, List.take_length]
          exact fold_head fun v => by unfold pickT; split; exact pick_self v; exact pickG_self v
        rw [el] at pq
        exact ⟨q, x3, e, s, pq⟩
    · rintro σ H' ⟨q, x3, rfl, s, pq⟩
      exact ⟨_, rfl, k q H' s pq⟩
end

/-! ### the least is the least -/
section
variable {P : Program} {w : World} {K : PySem.W.Frag} {mg : Str → Option Value} {base : Heap}
def leq (a b : Int × Int) : Prop := a.1 * b.2 ≤ b.1 * a.2
theorem leq_refl (a : Int × Int) : leq a a := Int.le_refl _
theorem leq_trans {a b c : Int × Int} (ha : 0 < a.2) (hb : 0 < b.2) (hc : 0 < c.2) (h1 : leq a b) (h2 : leq b c) : leq a c := by
  unfold leq at *
  have e1 : a.1 * b.2 * c.2 ≤ b.1 * a.2 * c.2 := Int.mul_le_mul_of_nonneg_right h1 (by omega)
  have e2 : b.1 * c.2 * a.2 ≤ c.1 * b.2 * a.2 := Int.mul_le_mul_of_nonneg_right h2 (by omega)
  have e3 : a.1 * c.2 * b.2 ≤ c.1 * a.2 * b.2 := by
    rw [Int.mul_right_comm a.1 c.2 b.2, Int.mul_right_comm c.1 a.2 b.2]
    exact Int.le_trans e1 (by rw [Int.mul_right_comm b.1 a.2 c.2]; exact e2)
  exact Int.le_of_mul_le_mul_right e3 hb
theorem leq_anti {a b : Int × Int} (ha : Low a.1 a.2) (hb : Low b.1 b.2) (h1 : leq a b) (h2 : leq b a) : a = b := by
  have e : a.1 * b.2 = b.1 * a.2 := Int.le_antisymm h1 h2
  have s1 := low_scale (k := b.2) (t := a.1) (b := a.2) hb.ne ha.ne
  have s2 := low_scale (k := a.2) (t := b.1) (b := b.2) ha.ne hb.ne
  rw [Int.mul_comm b.2 a.1, e, Int.mul_comm b.1 a.2, Int.mul_comm b.2 a.2, s2.1, s2.2, ha.tt, ha.bb, hb.tt, hb.bb] at s1
  exact Prod.ext s1.1.symm s1.2.symm
theorem fold_least : ∀ (l : List (Int × Int)) (m : Int × Int), 0 < m.2 → (∀ v ∈ l, 0 < v.2) → leq (l.foldl pick m) m ∧ (∀ v ∈ l, leq (l.foldl pick m) v) ∧ (l.foldl pick m = m ∨ l.foldl pick m ∈ l) ∧ 0 < (l.foldl pick m).2
  | [], m, hm, _ => ⟨leq_refl m, fun v h => by simp at h, .inl rfl, hm⟩
  | v :: r, m, hm, hl => by
    have hv := hl v List.mem_cons_self
    have hp : 0 < (pick m v).2 := by unfold pick; split <;> assumption
    obtain ⟨i1, i2, i3, i4⟩ := fold_least r (pick m v) hp fun u hu => hl u (List.mem_cons_of_mem _ hu)
    have p1 : leq (pick m v) m := by
      unfold pick
      split
      · rename_i h; exact Int.le_of_lt h
      · exact leq_refl m
    have p2 : leq (pick m v) v := by
      unfold pick
      split
      · exact leq_refl v
      · rename_i h; exact Int.not_lt.mp h
    refine ⟨leq_trans i4 hp hm i1 p1, fun u hu => ?_, ?_, i4⟩
    · rcases List.mem_cons.mp hu with rfl | hu
      · exact leq_trans i4 hp hv i1 p2
      · exact i2 u hu
    · show r.foldl pick (pick m v) = m ∨ r.foldl pick (pick m v) ∈ v :: r
      rcases i3 with e | e
      · rw [e]
        unfold pick
        split
        · exact .inr List.mem_cons_self
        · exact .inl rfl
      · exact .inr (List.mem_cons_of_mem _ e)
theorem least_spec {ps : List (Int × Int)} (h : ps ≠ []) (hp : ∀ v ∈ ps, 0 < v.2) : (∀ v ∈ ps, leq (foldP pick ps) v) ∧ foldP pick ps ∈ ps := by
  cases ps with
  | nil => exact absurd rfl h
  | cons v r =>
    obtain ⟨i1, i2, i3, _⟩ := fold_least r v (hp v List.mem_cons_self) fun u hu => hp u (List.mem_cons_of_mem _ hu)
    refine ⟨fun u hu => ?_, ?_⟩
    · rcases List.mem_cons.mp hu with rfl | hu
      · exact i1
      · exact i2 u hu
    · show r.foldl pick v ∈ v :: r
      rcases i3 with e | e
      · rw [e]; exact List.mem_cons_self
      · exact List.mem_cons_of_mem _ e
theorem least_of_mem {ps ps' : List (Int × Int)} (h : ps ≠ []) (h' : ps' ≠ []) (hl : ∀ v ∈ ps, Low v.1 v.2) (hm : ∀ v, v ∈ ps' ↔ v ∈ ps) : foldP pick ps' = foldP pick ps := by
  obtain ⟨a1, a2⟩ := least_spec h fun v hv => (hl v hv).1
  obtain ⟨b1, b2⟩ := least_spec h' fun v hv => (hl v ((hm v).mp hv)).1
  exact leq_anti (hl _ ((hm _).mp b2)) (hl _ a2) (b1 _ ((hm _).mpr a2)) (a1 _ ((hm _).mp b2))
theorem ng_ng (v : Int × Int) : ngP (ngP v) = v := by unfold ngP; simp
theorem great_of_mem {ps ps' : List (Int × Int)} (h : ps ≠ []) (h' : ps' ≠ []) (hl : ∀ v ∈ ps, Low v.1 v.2) (hm : ∀ v, v ∈ ps' ↔ v ∈ ps) : foldP pickG ps' = foldP pickG ps := by
  have e := least_of_mem (ps := ps.map ngP) (ps' := ps'.map ngP) (fun z => h (List.map_eq_nil_iff.mp z)) (fun z => h' (List.map_eq_nil_iff.mp z)) (fun v hv => by
    obtain ⟨u, hu, rfl⟩ := List.mem_map.mp hv
    exact (hl u hu).neg) (fun v => by
    simp only [List.mem_map]
    exact ⟨fun ⟨u, hu, e⟩ => ⟨u, (hm u).mp hu, e⟩, fun ⟨u, hu, e⟩ => ⟨u, (hm u).mpr hu, e⟩⟩)
  rw [least_neg h, least_neg h'] at e
  have := congrArg ngP e
  rw [ng_ng, ng_ng] at this
  exact this
theorem least_snoc {ps : List (Int × Int)} {s : Int} (h : ps ≠ []) (hl : ∀ v ∈ ps, 0 < v.2 ∧ v.1.natAbs ≤ s.natAbs) (hs : 0 < s) : foldP pick (ps ++ [(-s - 1, 1)]) = (-s - 1, 1) := by
  have hm := (least_spec h fun v hv => (hl v hv).1).2
  obtain ⟨b0, b1⟩ := hl _ hm
  cases ps with
  | nil => exact absurd rfl h
  | cons v r =>
    show (r ++ [(-s - 1, 1)]).foldl pick v = _
    rw [List.foldl_append]
    show pick (foldP pick (v :: r)) (-s - 1, 1) = _
    generalize foldP pick (v :: r) = m at b0 b1 ⊢
    refine if_pos ?_
    show (-s - 1) * m.2 < m.1 * 1
    have e : (-s - 1) * m.2 = -(s * m.2) - m.2 := by rw [Int.sub_mul, Int.neg_mul, Int.one_mul]
    have e2 : s * 1 ≤ s * m.2 := Int.mul_le_mul_of_nonneg_left (by omega) (by omega)
    rw [e]
    omega
def spRight (K : PySem.W.Frag) (C : Addr) : Sp := fun vs H Q _ => ∃ (g l : Addr) (xs : List V) (ps' : List (Int × Int)) (qs : List Addr) (ps : List (Int × Int)), vs = [.ref g, .ref l] ∧ SqA K H g xs ∧ xs ≠ [] ∧ xs.length ≤ 900 ∧ Nums C H xs ps' ∧ PairsAt H l qs ps ∧ ps ≠ [] ∧ foldP pick ps' = foldP pick ps ∧ foldP pickG ps' = foldP pickG ps ∧ ∀ H', Same H H' → Q (.bl true) H'
theorem SqA.on {H H' : Hp} {l : Addr} {xs : List V} (h : SqA K H l xs) (s : Same H H') : SqA K H' l xs := h.elim (fun h => .inl (s.seq h)) fun h => .inr (h.ext s)
theorem ok_right (T : Txt K mg) : FnOk P w K mg base CX0 7 T.f_right T.d_right ["_law_given", "_law_pairs"] (spRight K T.f_Ratio) := by
  have G_is : FnOk P w K mg base CX0 3 T.f_is T.d_is ["_law_actual", "_law_pair"] (spIs T.f_Ratio) := ok_is T
  have G_least : FnOk P w K mg base CX0 5 T.f_least T.d_least ["values"] (spLeast K T.f_Ratio) := ok_least T
  have G_greatest : FnOk P w K mg base CX0 6 T.f_greatest T.d_greatest ["values"] (spGreat K T.f_Ratio) := ok_greatest T
  have G_extreme : FnOk P w K mg base CX0 2 T.f_extreme T.d_extreme ["_law_pairs", "_law_turn"] spExtreme := ok_extreme T
  refine T.F_right.ok sc_right (fun vs H Q E h => ?_) (fun cdv A outer s H vs Q E hr h => ?_)
  · obtain ⟨g, l, xs, ps', qs, ps, rfl, _⟩ := h
    rfl
  · obtain ⟨g, l, xs, ps', qs, ps, rfl, hS, hx, hlen, n, hp, hne, e1, e2, k⟩ := h
    refine ⟨_, (pss_cons (ps_if (PW.pt (pw_or (pt_not (pt_val (pe_call G_is (hr.mono (by decide)) rfl T.m_is T.F_is.kp T.b_is .nil pass0 (pa_cons (pe_call G_least (hr.mono (by decide)) rfl T.m_least T.F_least.kp T.b_least .nil pass0 (pa_cons (pv 0) pa_nil)) (pa_cons (pe_call G_extreme (hr.mono (by decide)) rfl T.m_extreme T.F_extreme.kp T.b_extreme .nil pass0 (pa_cons (pv 1) (pa_cons pe_int pa_nil))) pa_nil))))) (pw_or1 (pt_not (pt_val (pe_call G_is (hr.mono (by decide)) rfl T.m_is T.F_is.kp T.b_is .nil pass0 (pa_cons (pe_callK0 G_least (hr.mono (by decide)) rfl T.m_least T.F_least.kp T.kb_least_0_values pass0 (pk_cons (pv 0) pk_nil)) (pa_cons (pe_call G_extreme (hr.mono (by decide)) rfl T.m_extreme T.F_extreme.kp T.b_extreme .nil pass0 (pa_cons (pv 1) (pa_cons pe_int pa_nil))) pa_nil))))))))
      (pss_one (ps_ret pe_bl))
      pss_nil)
    (pss_one (ps_ret (pe_and (pe_call G_is (hr.mono (by decide)) rfl T.m_is T.F_is.kp T.b_is .nil pass0 (pa_cons (pe_call G_greatest (hr.mono (by decide)) rfl T.m_greatest T.F_greatest.kp T.b_greatest .nil pass0 (pa_cons (pv 0) pa_nil)) (pa_cons (pe_call G_extreme (hr.mono (by decide)) rfl T.m_extreme T.F_extreme.kp T.b_extreme .nil pass0 (pa_cons (pv 1) (pa_cons pe_int pa_nil))) pa_nil))) (pe_one (pe_call G_is (hr.mono (by decide)) rfl T.m_is T.F_is.kp T.b_is .nil pass0 (pa_cons (pe_call G_greatest (hr.mono (by decide)) rfl T.m_greatest T.F_greatest.kp T.b_greatest .nil pass0 (pa_cons (pv 0) pa_nil)) (pa_cons (pe_call G_extreme (hr.mono (by decide)) rfl T.m_extreme T.F_extreme.kp T.b_extreme .nil pass0 (pa_cons (pv 1) (pa_cons pe_int pa_nil))) pa_nil)))))))), ?_⟩
    have t0 : pickT 0 = pick := rfl
    have t1 : pickT 1 = pickG := rfl
    refine ⟨_, rfl, g, xs, ps', rfl, hS, hx, n, fun a1 H1 s1 r1 => ⟨_, rfl, l, qs, ps, 0, rfl, by decide, hp.on s1, hne, fun b1 H2 s2 p2 => ?_⟩⟩
    rw [e1] at r1
    refine ⟨a1, b1, _, _, rfl, r1.on s2, p2, fun H3 s3 => ⟨_, rfl, iteF ?_⟩⟩
    have s03 := (s1.trans s2).trans s3
    refine ⟨_, rfl, g, xs, ps', rfl, hS.on s03, hx, n.on s03, fun a2 H4 s4 r2 => ⟨_, rfl, l, qs, ps, 0, rfl, by decide, (hp.on s03).on s4, hne, fun b2 H5 s5 p5 => ?_⟩⟩
    rw [e1] at r2
    refine ⟨a2, b2, _, _, rfl, r2.on s5, p5, fun H6 s6 => ⟨_, rfl, iteF ?_⟩⟩
    have s06 := ((s03.trans s4).trans s5).trans s6
    refine ⟨_, rfl, g, xs, ps', rfl, hS.on s06, hx, hlen, n.on s06, fun a3 H7 s7 r3 => ⟨_, rfl, l, qs, ps, 1, rfl, by decide, (hp.on s06).on s7, hne, fun b3 H8 s8 p8 => ?_⟩⟩
    rw [e2] at r3
    refine ⟨a3, b3, _, _, rfl, r3.on s8, p8, fun H9 s9 => ⟨true, rfl, iteT ?_⟩⟩
    have s09 := ((s06.trans s7).trans s8).trans s9
    refine ⟨_, rfl, g, xs, ps', rfl, hS.on s09, hx, hlen, n.on s09, fun a4 Ha s10 r4 => ⟨_, rfl, l, qs, ps, 1, rfl, by decide, (hp.on s09).on s10, hne, fun b4 Hb s11 p11 => ?_⟩⟩
    rw [e2] at r4
    exact ⟨a4, b4, _, _, rfl, r4.on s11, p11, fun Hc s12 => k Hc (((s09.trans s10).trans s11).trans s12)⟩
end

section
variable {P : Program} {w : World} {K : PySem.W.Frag} {mg : Str → Option Value} {base : Heap}
/-- what stands behind and is no list is known from then on -/
theorem DSt.grow {G H : Hp} {s : Addr} {m : Nat} (d : DSt G H s m) : ∃ G', DSt G' H s m ∧ Same G G' ∧ ∀ a o, H a = some o → (∀ xs, o ≠ .lst xs) → G' a = some o := by
  obtain ⟨b, c, gs, cs, n, d, hn⟩ := d
  have gl : ∀ a xs, G a = none → H a = some (.lst xs) → (match G a with | some o => some o | none => match H a with | some (.lst _) => none | x => x) = none := fun a xs e1 e2 => by rw [e1, e2]
  refine ⟨fun a => match G a with | some o => some o | none => match H a with | some (.lst _) => none | x => x, ⟨b, c, gs, cs, n, ⟨fun a o e => ?_, gl _ _ d.fs d.hs, gl _ _ d.fb d.hb, gl _ _ d.fc d.hc, d.hs, d.hb, d.hc, d.ne, d.pos⟩, hn⟩, fun a o e => ?_, fun a o e ne => ?_⟩
  · cases eg : G a with
    | some o' =>
      simp only [eg] at e
      rw [← e]
      exact d.same a _ eg
    | none =>
      simp only [eg] at e
      cases eh : H a with
      | none => rw [eh] at e; cases e
      | some o' =>
        rw [eh] at e
        cases o' <;> first | exact e | cases e
  · show (match G a with | some o => some o | none => match H a with | some (.lst _) => none | x => x) = some o
    rw [e]
  · show (match G a with | some o => some o | none => match H a with | some (.lst _) => none | x => x) = some o
    cases eg : G a with
    | some o' =>
      have := d.same a _ eg
      rw [e] at this
      exact this.symm
    | none =>
      simp only
      rw [e]
      cases o with
      | lst xs => exact absurd rfl (ne xs)
      | _ => rfl
theorem RatAt.ins {C : Addr} {H G : Hp} {p : Addr} {t b : Int} (r : RatAt C H p t b) (k : ∀ a o, H a = some o → (∀ xs, o ≠ .lst xs) → G a = some o) : RatAt C G p t b := let ⟨dx, h⟩ := r; ⟨dx, k _ _ h fun _ z => nomatch z⟩
theorem PairAt.ins {H G : Hp} {p : Addr} {t b : Int} (r : PairAt H p t b) (k : ∀ a o, H a = some o → (∀ xs, o ≠ .lst xs) → G a = some o) : PairAt G p t b := k _ _ r fun _ z => nomatch z
end

/-! ### the law -/
section
variable {P : Program} {w : World} {K : PySem.W.Frag} {mg : Str → Option Value} {base : Heap}
theorem scales {r : Int} (h0 : 0 ≤ r) (h1 : r < 3) : ∃ v : Int, atI [V.int 5, .int 1000, .int (10 ^ (15 : Int).toNat)] r = some (.int v) ∧ 0 < v ∧ v ≤ 10 ^ 15 := by
  have h : r = 0 ∨ r = 1 ∨ r = 2 := by omega
  rcases h with rfl | rfl | rfl
  · exact ⟨5, rfl, by decide, by decide +kernel⟩
  · exact ⟨1000, rfl, by decide, by decide +kernel⟩
  · exact ⟨10 ^ (15 : Int).toNat, rfl, by decide +kernel, by decide +kernel⟩
theorem mosts {r : Int} (h0 : 0 ≤ r) (h1 : r < 3) : ∃ v : Int, atI [V.int 1, .int 6, .int 1000] r = some (.int v) ∧ 0 < v ∧ v ≤ 1000 := by
  have h : r = 0 ∨ r = 1 ∨ r = 2 := by omega
  rcases h with rfl | rfl | rfl
  · exact ⟨1, rfl, by decide, by decide⟩
  · exact ⟨6, rfl, by decide, by decide⟩
  · exact ⟨1000, rfl, by decide, by decide⟩
theorem PairsAt.nil {H : Hp} {l : Addr} : PairsAt (upd H l (.lst [])) l [] [] := ⟨upd_same, rfl, fun i q p a _ => by simp at a, fun p h => by simp at h⟩
theorem PairsAt.snoc {H : Hp} {l o : Addr} {qs : List Addr} {ps : List (Int × Int)} {p : Int × Int} (g : PairsAt H l qs ps) (po : PairAt H o p.1 p.2) (f : Fine p) : PairsAt (upd H l (.lst (qs.map V.ref ++ [V.ref o]))) l (qs ++ [o]) (ps ++ [p]) := by
  have put : ∀ {q : Addr} {t b : Int}, PairAt H q t b → PairAt (upd H l (.lst (qs.map V.ref ++ [V.ref o]))) q t b := fun {q t b} pq => by
    have n : q ≠ l := fun e => by
      have h := g.hl
      unfold PairAt at pq
      rw [e, h] at pq
      cases pq
    unfold PairAt
    rw [upd_ne n]
    exact pq
  refine ⟨by rw [upd_same, List.map_append]; rfl, by rw [List.length_append, List.length_append, g.len]; rfl, fun i q p' hq hp => ?_, fun p' hp => ?_⟩
  · rcases Nat.lt_or_ge i qs.length with h | h
    · rw [List.getElem?_append_left h] at hq
      rw [List.getElem?_append_left (by rw [← g.len]; exact h)] at hp
      exact put (g.at_ i q p' hq hp)
    · rw [List.getElem?_append_right h] at hq
      rw [List.getElem?_append_right (by rw [← g.len]; exact h)] at hp
      have e : i - qs.length = 0 := by
        have := (List.getElem?_eq_some_iff.mp hq).1
        simp at this
        omega
      rw [← g.len, e] at hp
      rw [e] at hq
      have e1 : o = q := Option.some.inj hq
      have e2 : p = p' := Option.some.inj hp
      rw [← e1, ← e2]
      exact put po
  · rcases List.mem_append.mp hp with h | h
    · exact g.fine p' h
    · rw [List.mem_singleton.mp h]; exact f
theorem PairsAt.put {H : Hp} {l D : Addr} {qs : List Addr} {ps : List (Int × Int)} {ys zs : List V} (g : PairsAt H l qs ps) (h : H D = some (.lst ys)) (ne : l ≠ D) : PairsAt (upd H D (.lst zs)) l qs ps := by
  refine ⟨by rw [upd_ne ne]; exact g.hl, g.len, fun i q p a b => ?_, g.fine⟩
  have pq := g.at_ i q p a b
  have n : q ≠ D := fun e => by
    unfold PairAt at pq
    rw [e, h] at pq
    cases pq
  unfold PairAt
  rw [upd_ne n]
  exact pq
theorem dp_pairs {H : Hp} : ∀ {qs : List Addr} {ps : List (Int × Int)}, qs.length = ps.length → (∀ (i : Nat) (q : Addr) (p : Int × Int), qs[i]? = some q → ps[i]? = some p → PairAt H q p.1 p.2) → DpAll K H (qs.map V.ref) (ps.map fun p => dat2 p.1 p.2)
  | [], [], _, _ => .nil
  | [], _ :: _, h, _ => by simp at h
  | _ :: _, [], h, _ => by simp at h
  | q :: qs, p :: ps, h, k => .cons (dp2 (k 0 q p rfl rfl)) (dp_pairs (by simpa using h) fun i q p a b => k (i + 1) q p (by simpa using a) (by simpa using b))
theorem sh_pairs (ps : List (Int × Int)) : SeqAt.shaped (.list (ps.map fun p => dat2 p.1 p.2)) = true := by
  have h1 : PyData.canLayAll0 (ps.map fun p => dat2 p.1 p.2) = true := by
    induction ps with
    | nil => rfl
    | cons p r ih =>
      show (PyData.canLay0 (dat2 p.1 p.2) && PyData.canLayAll0 (r.map fun p => dat2 p.1 p.2)) = true
      rw [ih, Bool.and_true]
      simp [dat2, PyData.canLay0, PyData.canLayAll0]
  have h2 : PyData.depthAll (ps.map fun p => dat2 p.1 p.2) ≤ 1 := by
    clear h1
    induction ps with
    | nil => exact Nat.zero_le _
    | cons p r ih =>
      show max (PyData.depth (dat2 p.1 p.2)) (PyData.depthAll (r.map fun p => dat2 p.1 p.2)) ≤ 1
      refine Nat.max_le.mpr ⟨?_, ih⟩
      simp [dat2, PyData.depth, PyData.depthAll]
  unfold SeqAt.shaped
  rw [show PyData.canLay0 (.list (ps.map fun p => dat2 p.1 p.2)) = true by simp only [PyData.canLay0]; exact h1, Bool.true_and]
  refine decide_eq_true ?_
  simp only [PyData.depth]
  omega
theorem plain_nums {C : Addr} {H : Hp} {xs : List V} {ps : List (Int × Int)} (n : Nums C H xs ps) : ∀ z ∈ xs, plainV z = true := by
  intro z hz
  obtain ⟨i, hi⟩ := List.mem_iff_getElem?.mp hz
  obtain ⟨p, _, np, _⟩ := n.get hi
  rcases np with ⟨e, _⟩ | ⟨q, e, _⟩ <;> rw [e] <;> rfl
theorem Nums.rev {C : Addr} {H : Hp} {xs : List V} {ps : List (Int × Int)} (n : Nums C H xs ps) : Nums C H xs.reverse ps.reverse := by
  refine ⟨by rw [List.length_reverse, List.length_reverse, n.len], fun i x p a b => ?_, fun p h => n.fine p (List.mem_reverse.mp h)⟩
  have hi := (List.getElem?_eq_some_iff.mp a).1
  rw [List.length_reverse] at hi
  rw [List.getElem?_reverse hi] at a
  rw [List.getElem?_reverse (by rw [← n.len]; exact hi), ← n.len] at b
  exact n.at_ _ x p a b
def spLaw (K : PySem.W.Frag) : Sp := fun vs H Q _ => ∃ (a : Addr) (ns : List Int), vs = [.ref a] ∧ SqL K H a (ns.map V.int) ∧ ns.length ≤ 63 ∧ ∀ H', Q (.bl true) H'
theorem ok_law {f : Addr} {fd : FuncData} (T : Txt K mg) (F : Fun K "law" "law" s_law f fd) : FnOk P w K mg base CX0 11 f fd ["_law_script"] (spLaw K) := by
  have G_start : FnOk P w K mg base CX0 1 T.f_start T.d_start ["_law_script"] (spStart K) := ok_start T
  have G_draw : FnOk P w K mg base CX0 1 T.f_draw T.d_draw ["_law_state", "_law_size"] spDraw := ok_draw T
  have G_low : FnOk P w K mg base CX0 1 T.f_low T.d_low ["_law_up", "_law_down"] spLow := ok_low T
  have G_is : FnOk P w K mg base CX0 3 T.f_is T.d_is ["_law_actual", "_law_pair"] (spIs T.f_Ratio) := ok_is T
  have G_least : FnOk P w K mg base CX0 5 T.f_least T.d_least ["values"] (spLeast K T.f_Ratio) := ok_least T
  have G_right : FnOk P w K mg base CX0 7 T.f_right T.d_right ["_law_given", "_law_pairs"] (spRight K T.f_Ratio) := ok_right T
  have G_value : FnOk P w K mg base CX0 3 T.f_value T.d_value ["_law_state", "_law_pair"] (spValue T.f_Ratio) := ok_value T
  have G_refused : FnOk P w K mg base CX0 10 T.f_refused T.d_refused [] spRef := ok_refused T
  refine F.ok sc_law (fun vs H Q E h => ?_) (fun cdv A outer s H vs Q E hr h => ?_)
  · obtain ⟨a, ns, rfl, _⟩ := h
    rfl
  · obtain ⟨a, ns, rfl, hS, hlen, k⟩ := h
    refine ⟨_, (pss_cons (ps_set (i := 1) sc_law.nd rfl (Or.inr rfl) (pe_call G_start (hr.mono (by decide)) rfl T.m_start T.F_start.kp T.b_start .nil pass0 (pa_cons (pv 0) pa_nil)))
    (pss_cons (ps_set (i := 2) sc_law.nd rfl (Or.inl rfl) (pe_ix ix_list (pe_lst (pa_cons pe_int (pa_cons pe_int (pa_cons (pe_op op_pow pe_int pe_int) pa_nil)))) (pe_call G_draw (hr.mono (by decide)) rfl T.m_draw T.F_draw.kp T.b_draw .nil pass0 (pa_cons (pv 1) (pa_cons pe_int pa_nil))) (fun _ _ => rfl)))
    (pss_cons (ps_set (i := 3) sc_law.nd rfl (Or.inl rfl) (pe_ix ix_list (pe_lst (pa_cons pe_int (pa_cons pe_int (pa_cons pe_int pa_nil)))) (pe_call G_draw (hr.mono (by decide)) rfl T.m_draw T.F_draw.kp T.b_draw .nil pass0 (pa_cons (pv 1) (pa_cons pe_int pa_nil))) (fun _ _ => rfl)))
    (pss_cons (ps_set (i := 4) sc_law.nd rfl (Or.inl rfl) (pe_lst pa_nil))
    (C8.pss_cut (ps_for PassesOwn.never rfl (pi_range1 rfl T.n_range (pa_cons (pe_call G_draw (hr.mono (by decide)) rfl T.m_draw T.F_draw.kp T.b_draw .nil pass0 (pa_cons (pv 1) (pa_cons pe_int pa_nil))) pa_nil)) (pg_name (i := 5) sc_law.nd rfl (Or.inl rfl))
      (pss_cons (ps_set (i := 6) sc_law.nd rfl (Or.inl rfl) (pe_call G_low (hr.mono (by decide)) rfl T.m_low T.F_low.kp T.b_low .nil pass0 (pa_cons (pe_op op_sub (pe_call G_draw (hr.mono (by decide)) rfl T.m_draw T.F_draw.kp T.b_draw .nil pass0 (pa_cons (pv 1) (pa_cons (pe_op op_add (pe_op op_mul pe_int (pv 2)) pe_int) pa_nil))) (pv 2)) (pa_cons (pe_op op_add pe_int (pe_call G_draw (hr.mono (by decide)) rfl T.m_draw T.F_draw.kp T.b_draw .nil pass0 (pa_cons (pv 1) (pa_cons (pv 3) pa_nil)))) pa_nil))))
    (C8.pss_cut (ps_if (PW.pt (pw_and (pt_cmpR (op_neD hr.units) (pv 4) (pe_lst pa_nil) (nomark _)) (pw_and1 (pt_cmpR op_eq (pe_call G_draw (hr.mono (by decide)) rfl T.m_draw T.F_draw.kp T.b_draw .nil pass0 (pa_cons (pv 1) (pa_cons pe_int pa_nil))) pe_int (nomark _)))))
      (pss_one (ps_set (i := 6) sc_law.nd rfl (Or.inl rfl) (pe_ix ix_list (pv 4) (pe_call G_draw (hr.mono (by decide)) rfl T.m_draw T.F_draw.kp T.b_draw .nil pass0 (pa_cons (pv 1) (pa_cons (pe_callB call_len_seq (by rfl) T.n_len (by decide +kernel) (pa_cons (pv 4) pa_nil)) pa_nil))) (fun _ _ => rfl))))
      pss_nil)
    (pss_one (ps_expr (pe_bm PySem.F.plainAttrs_list PySem.F.slot_list_append PySem.F.type_list_append mt_append (pv 4) (pa_cons (pv 6) pa_nil)))))))
    (pss_cons (ps_if (pt_cmpR (op_eqD hr.units) (pv 4) (pe_lst pa_nil) (nomark _))
      (pss_one (ps_ret (pe_call0 G_refused (hr.mono (by decide)) rfl T.m_refused T.F_refused.kp T.b_refused .nil pass0)))
      pss_nil)
    (pss_cons (ps_setLc (i := 7) (own := [("_law_pair", 6)]) (g := gName 6) (tt := tYes) rfl sc_law.nd rfl rfl (sw_true rfl rfl rfl (by decide +kernel)) (pi_list (pv 4)) (blkOk_by (N := ["_law_script", "_law_state", "_law_scale", "_law_most", "_law_pairs", "_law_k", "_law_pair", "_law_given", "_law_passed"]) (sc := defScope s_law) (by decide +kernel)) (fun _ _ _ _ _ => pg_name (i := 6) sc_law.nd rfl (Or.inl rfl)) (fun _ _ _ _ _ => pts_nil) (fun _ _ _ _ _ => (pe_call G_value (hr.mono (by decide)) rfl T.m_value T.F_value.kp T.b_value .nil pass0 (pa_cons (pv 1) (pa_cons (pv 6) pa_nil)))))
    (pss_cons (ps_set (i := 8) sc_law.nd rfl (Or.inl rfl) (pe_callTy call_list_of (by rfl) T.n_list (by decide +kernel) (pa_cons (pv 7) pa_nil)))
    (pss_cons (ps_if (PW.pt (pw_or (pt_not (pt_val (pe_call G_right (hr.mono (by decide)) rfl T.m_right T.F_right.kp T.b_right .nil pass0 (pa_cons (pv 8) (pa_cons (pv 4) pa_nil))))) (pw_or (pt_cmpR (op_neSame hr.units0) (pv 8) (pv 7) (nomark _)) (pw_or1 (pt_not (pt_val (pe_call G_right (hr.mono (by decide)) rfl T.m_right T.F_right.kp T.b_right .nil pass0 (pa_cons (pe_callTy call_tuple_of (by rfl) T.n_tuple (by decide +kernel) (pa_cons (pe_revL (pv 7)) pa_nil)) (pa_cons (pv 4) pa_nil)))))))))
      (pss_one (ps_ret pe_bl))
      pss_nil)
    (pss_cons (ps_expr (pe_bm PySem.F.plainAttrs_list PySem.F.slot_list_append PySem.F.type_list_append mt_append (pv 8) (pa_cons (pe_op op_sub (pe_un un_neg (pv 2)) pe_int) pa_nil)))
    (pss_one (ps_ret (pe_and (pe_call G_is (hr.mono (by decide)) rfl T.m_is T.F_is.kp T.b_is .nil pass0 (pa_cons (pe_call G_least (hr.mono (by decide)) rfl T.m_least T.F_least.kp T.b_least .nil pass0 (pa_cons (pv 8) pa_nil)) (pa_cons (pe_tup (pa_cons (pe_op op_sub (pe_un un_neg (pv 2)) pe_int) (pa_cons pe_int pa_nil))) pa_nil))) (pe_one (pe_call G_right (hr.mono (by decide)) rfl T.m_right T.F_right.kp T.b_right .nil pass0 (pa_cons (pv 7) (pa_cons (pv 4) pa_nil))))))))))))))))), ?_⟩
    have z2 : 2 ≤ sizeLine := by decide
    have z3 : 3 ≤ sizeLine := by decide
    have b200 : ∀ z : Int, z ≤ 10 ^ 17 → z < 2 ^ 200 := fun z hz => Int.lt_of_le_of_lt hz (by decide +kernel)
    refine ⟨_, rfl, a, ns, rfl, hS, hlen, fun st H1 d1 => ?_⟩
    -- the scale
    refine ⟨10, 15, rfl, rfl, ⟨by decide, by decide, by decide⟩, z3, fun l1 hl1 => ?_⟩
    refine ⟨_, rfl, _, st, 0, 3, rfl, d1.new hl1, by decide, by decide, by decide, fun r H2 r0 r1 d2 => ?_⟩
    obtain ⟨sc, esc, sc0, sc1⟩ := scales r0 r1
    refine ⟨l1, _, r, .int sc, rfl, rfl, SqL.of (d2.same _ _ upd_same), esc, ?_⟩
    -- the most
    refine ⟨z3, fun l2 hl2 => ?_⟩
    refine ⟨_, rfl, _, st, 1, 3, rfl, d2.new hl2, by decide, by decide, by decide, fun r2 H3 r20 r21 d3 => ?_⟩
    obtain ⟨mo, emo, mo0, mo1⟩ := mosts r20 r21
    refine ⟨l2, _, r2, .int mo, rfl, rfl, SqL.of (d3.same _ _ upd_same), emo, ?_⟩
    -- the pairs
    refine ⟨Nat.zero_le _, fun lp hlp => ?_⟩
    have d4 := d3.new (o := .lst []) hlp
    refine ⟨fun σ H' => ∃ (x5 x6 : Option V) (G : Hp) (qs : List Addr) (ps : List (Int × Int)), σ = [some (.ref a), some (.ref st), some (.int sc), some (.int mo), some (.ref lp), x5, x6, none, none] ∧ DSt G H' st 100 ∧ PairsAt G lp qs ps ∧ (∀ p ∈ ps, p.1.natAbs ≤ sc.natAbs) ∧ ps.length ≤ 8, ?_, ?_⟩
    · refine ⟨_, rfl, _, st, 2, 8, rfl, d4, by decide, by decide, by decide, fun cnt H5 c0 c1 d5 => ⟨cnt, rfl, by omega, by omega, ?_⟩⟩
      refine for_range (lo := 0) (n := cnt.toNat) (fun i σ H' => ∃ (x5 x6 : Option V) (G : Hp) (qs : List Addr) (ps : List (Int × Int)), σ = [some (.ref a), some (.ref st), some (.int sc), some (.int mo), some (.ref lp), x5, x6, none, none] ∧ DSt G H' st (3 + i * 4) ∧ PairsAt G lp qs ps ∧ (∀ p ∈ ps, p.1.natAbs ≤ sc.natAbs) ∧ ps.length ≤ i) ⟨none, none, _, [], [], rfl, d5, PairsAt.nil, fun p h => by simp at h, Nat.le_refl _⟩ ?_ ?_
      · rintro i σ H6 hi ⟨x5, x6, G, qs, ps, rfl, d, g, hb, hl⟩
        rw [Int.zero_add]
        have hi8 : i < 8 := by omega
        refine ⟨_, rfl, _, rfl, 2, sc, rfl, rfl, .inl ⟨by decide, by decide⟩, _, _, rfl, rfl, ?_⟩
        refine ⟨G, st, 3 + i * 4, 2 * sc + 1, rfl, d, by omega, by omega, b200 _ (by omega), fun z H7 zz0 zz1 d7 => ?_⟩
        refine ⟨_, rfl, _, _, rfl, rfl, ?_⟩
        refine ⟨_, rfl, _, rfl, G, st, 3 + i * 4 + 1, mo, rfl, d7, by omega, mo0, b200 _ (by omega), fun y H8 yy0 yy1 d8 => ?_⟩
        refine ⟨_, _, rfl, rfl, ?_⟩
        have hy : 1 + y ≠ 0 := by omega
        have syb : SM (1 + y) := Nat.lt_of_lt_of_le (show (1 + y).natAbs < 2000 by omega) (by decide +kernel)
        have szs : (z - sc).natAbs ≤ sc.natAbs := by omega
        have szb : SM (z - sc) := Nat.lt_of_le_of_lt szs (Nat.lt_of_le_of_lt (show sc.natAbs ≤ 10 ^ 15 by omega) (by decide +kernel))
        refine ⟨z - sc, 1 + y, rfl, hy, syb.big, fun o H9 no s9 po => ?_⟩
        have fo : Fine (lowT (z - sc) (1 + y), lowB (z - sc) (1 + y)) := ⟨Low.of hy, Nat.lt_of_le_of_lt (lowT_le hy) szb, Nat.lt_of_le_of_lt (lowB_le hy) syb⟩
        have bo : (lowT (z - sc) (1 + y)).natAbs ≤ sc.natAbs := Nat.le_trans (lowT_le hy) szs
        have d9 := d8.on s9
        refine ⟨fun σ H' => ∃ (o : Addr) (p : Int × Int), σ = [some (.ref a), some (.ref st), some (.int sc), some (.int mo), some (.ref lp), some (.int (i : Int)), some (.ref o), none, none] ∧ PairAt H' o p.1 p.2 ∧ Fine p ∧ p.1.natAbs ≤ sc.natAbs ∧ DSt G H' st (3 + i * 4 + 4), ?_, ?_⟩
        · refine ⟨_, rfl, Nat.zero_le _, fun pe hpe => ?_⟩
          have se := same_upd (o := .lst []) hpe
          have d10 := d9.on se
          have ge := g.on d10.same
          have po10 : PairAt (upd H9 pe (.lst [])) o (lowT (z - sc) (1 + y)) (lowB (z - sc) (1 + y)) := se _ _ po
          refine ⟨.list (ps.map fun p => dat2 p.1 p.2), .list [], .lst (SqL.of ge.hl) (dp_pairs ge.len ge.at_), .lst (SqL.of upd_same) .nil, sh_pairs ps, shaped_ints [], ?_⟩
          cases ps with
          | nil =>
            refine ⟨false, by show V.bl (!PyData.eqv (.list []) (.list [])) = _; rw [eqv_nil]; rfl, iteF (iteF ?_)⟩
            exact ⟨o, (lowT (z - sc) (1 + y), lowB (z - sc) (1 + y)), rfl, po10, fo, bo, d10.mono (by omega)⟩
          | cons p0 pr =>
            refine ⟨true, by show V.bl (!PyData.eqv (.list (_ :: _)) (.list [])) = _; rw [eqv_cons]; rfl, iteT ?_⟩
            obtain ⟨G', e10, sg, kg⟩ := d10.grow
            refine ⟨_, rfl, G', st, _, 5, rfl, e10, by omega, by decide, by decide, fun r3 H11 _ _ d11 => ⟨rfl, _, rfl, ite2 (fun _ => ?_) fun _ => ?_⟩⟩
            · have g11 := (g.on sg).on d11.same
              have hlq : 0 < qs.length := by rw [g.len]; exact Nat.succ_pos _
              have hlq8 : qs.length ≤ 8 := by rw [g.len]; omega
              refine ⟨_, rfl, _, rfl, _, rfl, lp, _, rfl, .inl (SqL.of g11.hl), ?_⟩
              refine ⟨G', st, _, _, rfl, d11, by omega, by rw [List.length_map]; omega, b200 _ (by rw [List.length_map]; omega), fun r4 H12 r40 r41 d12 => ?_⟩
              rw [List.length_map] at r41
              obtain ⟨j, rfl⟩ : ∃ j : Nat, r4 = (j : Int) := ⟨r4.toNat, by omega⟩
              have hj : j < qs.length := by omega
              have g12 := (g.on sg).on d12.same
              obtain ⟨q, p, e1, e2, e3, pq, fq⟩ := g12.get (i := j) (x := .ref qs[j]) (by rw [List.getElem?_map, List.getElem?_eq_getElem hj]; rfl)
              injection e1 with e1
              refine ⟨lp, _, (j : Int), .ref qs[j], rfl, rfl, SqL.of g12.hl, at_of rfl (by rw [List.getElem?_map, List.getElem?_eq_getElem hj]; rfl), ?_⟩
              rw [e1]
              exact ⟨q, p, rfl, pq, fq, hb p (List.mem_of_getElem? e3), (d12.less sg).mono (by omega)⟩
            · exact ⟨o, (lowT (z - sc) (1 + y), lowB (z - sc) (1 + y)), rfl, (po10.ins kg).on d11.same, fo, bo, (d11.less sg).mono (by omega)⟩
        · rintro σ H13 ⟨o, p, rfl, po, fp, bp, d13⟩
          obtain ⟨G', e13, sg, kg⟩ := d13.grow
          have g13 := g.on sg
          refine ⟨_, rfl, .inl ⟨rfl, _, SqL.of (e13.same _ _ g13.hl)⟩, _, rfl, lp, _, _, rfl, rfl, e13.same _ _ g13.hl, small1000 (by rw [List.length_map, g.len]; omega), ?_⟩
          refine ⟨_, _, _, qs ++ [o], ps ++ [p], rfl, (e13.put g13.hl).mono (by omega), g13.snoc (po.ins kg) fp, fun p' hp' => ?_, by rw [List.length_append]; exact Nat.succ_le_succ hl⟩
          rcases List.mem_append.mp hp' with h | h
          · exact hb p' h
          · rw [List.mem_singleton.mp h]; exact bp
      · rintro σ H6 ⟨x5, x6, G, qs, ps, e, d, g, hb, hl⟩
        exact ⟨x5, x6, G, qs, ps, e, d.mono (by omega), g, hb, by omega⟩
    rintro σ H14 ⟨x5, x6, G, qs, ps, rfl, d, g, hb, hl⟩
    -- none drawn
    have gH := g.on d.same
    refine ⟨_, rfl, Nat.zero_le _, fun pe hpe => ?_⟩
    have se := same_upd (o := .lst []) hpe
    have d15 := d.on se
    have ge := g.on d15.same
    refine ⟨.list (ps.map fun p => dat2 p.1 p.2), .list [], .lst (SqL.of ge.hl) (dp_pairs ge.len ge.at_), .lst (SqL.of upd_same) .nil, sh_pairs ps, shaped_ints [], ?_⟩
    by_cases hps : ps = []
    · subst hps
      exact ⟨true, by show V.bl (PyData.eqv (.list []) (.list [])) = _; rw [eqv_nil], iteT ⟨rfl, k⟩⟩
    have enil : PyData.eqv (.list (ps.map fun p => dat2 p.1 p.2)) (.list []) = false := by
      cases ps with
      | nil => exact absurd rfl hps
      | cons => exact eqv_cons
    refine ⟨false, by show V.bl (PyData.eqv _ (.list [])) = _; rw [enil], iteF ?_⟩
    -- the values
    refine ⟨_, rfl, lp, rfl, ⟨_, SqL.of ge.hl⟩, fun D hD => ?_⟩
    have nlD : lp ≠ D := ne_of_none ge.hl hD
    refine lc_list (K := K) (a := lp) (xs := qs.map V.ref) (fun i H1 => ∃ (G' : Hp) (ys : List V), DSt G' H1 st (100 + i * 2) ∧ PairsAt G' lp qs ps ∧ G' D = some (.lst ys) ∧ ys.length = i ∧ Nums T.f_Ratio G' ys (ps.take i)) ⟨_, [], d15.new hD, g.on (same_upd (d15.free hD)), upd_same, rfl, Nums.nil⟩ (fun i H1 _ ⟨_, _, d', g', _⟩ => SqL.of (d'.same _ _ g'.hl)) ?_ ?_
    · rintro i x H1 hi ⟨G', ys, d', g', eD, ly, ny⟩
      obtain ⟨q, p, rfl, e2, e3, pq, fq⟩ := g'.get hi
      have hi8 : i < 8 := by
        have := (List.getElem?_eq_some_iff.mp e3).1
        omega
      refine ⟨rfl, _, rfl, _, rfl, st, q, p.1, p.2, G', _, rfl, pq, fq, d', by omega, fun v H2 nv nl d2 => ?_⟩
      obtain ⟨G2, e2', sg, kg⟩ := d2.grow
      have eD2 := sg _ _ eD
      have nv2 : Num T.f_Ratio G2 v p.1 p.2 := nv.elim .inl fun ⟨z, e, r⟩ => .inr ⟨z, e, r.ins kg⟩
      refine ⟨ys, e2'.same _ _ eD2, small1000 (by omega), upd G2 D (.lst (ys ++ [v])), ys ++ [v], ?_, (g'.on sg).put eD2 nlD, upd_same, by rw [List.length_append, ly]; rfl, ?_⟩
      · have e : 100 + i * 2 + 2 = 100 + (i + 1) * 2 := by omega
        rw [← e]
        exact e2'.put eD2
      · rw [take_more e3]
        exact ((ny.on sg).snoc nv2 fq).put eD2
    rintro H16 ⟨G', ys, d', g', eD, ly, ny⟩
    rw [List.length_map, g.len, List.take_length] at ny
    rw [List.length_map] at ly
    have gH' := g'.on d'.same
    have nH := ny.on d'.same
    have eDH := d'.same _ _ eD
    have hys : ys ≠ [] := fun e => hps (List.length_eq_zero_iff.mp (by rw [← ny.len, e]; rfl))
    have hylen : ys.length ≤ 900 := by rw [ny.len]; omega
    have lows : ∀ v ∈ ps, Low v.1 v.2 := fun v hv => (g.fine v hv).1
    -- a list of them, passed
    refine ⟨_, rfl, D, ys, rfl, .inl (SqL.of eDH), fun l hl17 => ?_⟩
    have s17 := same_upd (o := .lst ys) hl17
    refine ⟨_, rfl, _, rfl, l, lp, ys, ps, qs, ps, rfl, .inl (SqL.of upd_same), hys, hylen, nH.on s17, gH'.on s17, hps, rfl, rfl, fun H18 s18 => ⟨_, rfl, iteF ?_⟩⟩
    have s178 := s17.trans s18
    refine ⟨_, rfl, _, rfl, l, D, ys, rfl, rfl, SqL.of (s18 _ _ upd_same), SqL.of (s178 _ _ eDH), plain_nums ny, _, rfl, iteF ?_⟩
    have rne : ys.reverse ≠ [] := fun e => hys (List.reverse_eq_nil_iff.mp e)
    have pne : ps.reverse ≠ [] := fun e => hps (List.reverse_eq_nil_iff.mp e)
    refine ⟨_, rfl, D, ys, rfl, SqL.of (s178 _ _ eDH), fun rv hrv => ?_⟩
    have s19 := same_upd (o := .lst ys.reverse) hrv
    refine ⟨rv, _, rfl, .inl ⟨SqL.of upd_same, fun tp htp => ?_⟩⟩
    have s20 := same_upd (o := .tup ys.reverse) htp
    have s1720 := (s178.trans s19).trans s20
    refine ⟨_, rfl, tp, lp, ys.reverse, ps.reverse, qs, ps, rfl, .inr (SqT.of upd_same), rne, by rw [List.length_reverse]; exact hylen, (nH.on s1720).rev, gH'.on s1720, hps, least_of_mem hps pne lows fun v => List.mem_reverse, great_of_mem hps pne lows fun v => List.mem_reverse, fun H21 s21 => ⟨_, rfl, iteF ?_⟩⟩
    have s1721 := s1720.trans s21
    have el : H21 l = some (.lst ys) := (((s18.trans s19).trans s20).trans s21) _ _ upd_same
    -- one more
    refine ⟨_, rfl, .inl ⟨rfl, _, SqL.of el⟩, _, rfl, sc, rfl, _, _, rfl, rfl, l, ys, _, rfl, rfl, el, small1000 (by omega), ?_⟩
    have scs : SM (-sc - 1) := Nat.lt_of_le_of_lt (show (-sc - 1).natAbs ≤ 10 ^ 16 by omega) (by decide +kernel)
    have lw : Low (-sc - 1) 1 := Low.one _
    have n22 : Nums T.f_Ratio (upd H21 l (.lst (ys ++ [V.int (-sc - 1)]))) (ys ++ [V.int (-sc - 1)]) (ps ++ [(-sc - 1, 1)]) := ((nH.on s1721).snoc (p := (-sc - 1, 1)) (.inl ⟨rfl, rfl⟩) ⟨lw, scs, sm_one⟩).put el
    have nlD : D ≠ l := fun e => by
      rw [e, hl17] at eDH
      cases eDH
    have nll : lp ≠ l := fun e => by
      have := gH'.hl
      rw [e, hl17] at this
      cases this
    have eD22 : (upd H21 l (.lst (ys ++ [V.int (-sc - 1)]))) D = some (.lst ys) := by rw [upd_ne nlD]; exact s1721 _ _ eDH
    have g22 := (gH'.on s1721).put (zs := ys ++ [V.int (-sc - 1)]) el nll
    have nD22 : Nums T.f_Ratio (upd H21 l (.lst (ys ++ [V.int (-sc - 1)]))) ys ps := (nH.on s1721).put el
    refine ⟨_, rfl, l, _, _, rfl, .inl (SqL.of upd_same), (fun e => by simp at e), n22, fun q23 H23 s23 r23 => ?_⟩
    rw [least_snoc hps (fun v hv => ⟨(lows v hv).1, hb v hv⟩) sc0] at r23
    refine ⟨_, rfl, sc, rfl, _, _, rfl, rfl, z2, fun o24 ho24 => ?_⟩
    have s24 := same_upd (o := .tup [V.int (-sc - 1), V.int 1]) ho24
    refine ⟨q23, o24, -sc - 1, 1, rfl, r23.on s24, upd_same, fun H25 s25 => ⟨true, rfl, iteT ?_⟩⟩
    have s235 := (s23.trans s24).trans s25
    exact ⟨_, rfl, _, rfl, D, lp, ys, ps, qs, ps, rfl, .inl (SqL.of (s235 _ _ eD22)), hys, hylen, nD22.on s235, g22.on s235, hps, rfl, rfl, fun H26 _ => k H26⟩
end

theorem all_mk {l : PySem.W.OpenLaw} {w : World} {K : PySem.W.Frag} {h : Heap} {mg : Str → Option Value} {f_BadCount f_Ratio f_ExtralinkError f_as_ratio f_least f_greatest f_start f_draw f_low f_less f_is f_value f_refused f_extreme f_right f_BadCount_init f_Ratio_init dT_Ratio_init f_Ratio_top p_Ratio_top f_Ratio_bottom p_Ratio_bottom f_Ratio_below f_Ratio_neg fa f_law : Addr} {od_as_ratio an_as_ratio od_least an_least od_greatest an_greatest od_start an_start od_draw an_draw od_low an_low od_less an_less od_is an_is od_value an_value od_refused an_refused od_extreme an_extreme od_right an_right od_BadCount_init an_BadCount_init od_Ratio_init an_Ratio_init dd0_Ratio_init od_Ratio_top an_Ratio_top od_Ratio_bottom an_Ratio_bottom od_Ratio_below an_Ratio_below od_Ratio_neg an_Ratio_neg od_law an_law : Option Addr} {sl_as_ratio sl_least sl_greatest sl_start sl_draw sl_low sl_less sl_is sl_value sl_refused sl_extreme sl_right sl_BadCount_init sl_Ratio_init ds_Ratio_init sl_Ratio_top sl_Ratio_bottom sl_Ratio_below sl_Ratio_neg sl_law : Array (Option Value)} {oc_as_ratio kV_as_ratio dc_as_ratio pm_as_ratio cd_as_ratio ct_as_ratio oc_least kV_least dc_least pm_least cd_least ct_least oc_greatest kV_greatest dc_greatest pm_greatest cd_greatest ct_greatest oc_start kV_start dc_start pm_start cd_start ct_start oc_draw kV_draw dc_draw pm_draw cd_draw ct_draw oc_low kV_low dc_low pm_low cd_low ct_low oc_less kV_less dc_less pm_less cd_less ct_less oc_is kV_is dc_is pm_is cd_is ct_is oc_value kV_value dc_value pm_value cd_value ct_value oc_refused kV_refused dc_refused pm_refused cd_refused ct_refused oc_extreme kV_extreme dc_extreme pm_extreme cd_extreme ct_extreme oc_right kV_right dc_right pm_right cd_right ct_right oc_BadCount_init kV_BadCount_init dc_BadCount_init pm_BadCount_init cd_BadCount_init ct_BadCount_init oc_Ratio_init kV_Ratio_init dc_Ratio_init pm_Ratio_init cd_Ratio_init ct_Ratio_init dc0_Ratio_init oc_Ratio_top kV_Ratio_top dc_Ratio_top pm_Ratio_top cd_Ratio_top ct_Ratio_top oc_Ratio_bottom kV_Ratio_bottom dc_Ratio_bottom pm_Ratio_bottom cd_Ratio_bottom ct_Ratio_bottom oc_Ratio_below kV_Ratio_below dc_Ratio_below pm_Ratio_below cd_Ratio_below ct_Ratio_below oc_Ratio_neg kV_Ratio_neg dc_Ratio_neg pm_Ratio_neg cd_Ratio_neg ct_Ratio_neg oc_law kV_law dc_law pm_law cd_law ct_law : Value} {dt_Ratio_init : Tok} {dn_Ratio_init : Nat} {rs_Ratio_top rs_Ratio_bottom : List Value} (X : K.In h) (G : h.Ns mainGlobals mg) (hfa : mg "law" = some (.ref fa))
    (a_BadCount : PySem.W.nsIn K mainGlobals "BadCount" = some (some (.ref f_BadCount)))
    (a_Ratio : PySem.W.nsIn K mainGlobals "Ratio" = some (some (.ref f_Ratio)))
    (pg_Ratio : PySem.W.plainGet K f_Ratio Str.empty = true)
    (hd_Ratio : PySem.W.hasDictIn K f_Ratio = true)
    (po_Ratio : PySem.W.plainOver K f_Ratio = true)
    (sa_Ratio : PySem.W.findIn K (.ref f_Ratio) "__setattr__" = some (some (.builtin "object.__setattr__")))
    (mk_Ratio : PySem.W.makesIn K f_Ratio = true)
    (kc_Ratio : PySem.W.keepIn K (.ref f_Ratio) = true)
    (hc_Ratio : PySem.W.findIn K (.ref f_Ratio) "__class__" = some (some (.builtin "object.__class__")))
    (mo_Ratio : PySem.W.mroIn K f_Ratio (.type "object") = some true)
    (ic_Ratio : PySem.W.isClsIn K f_Ratio = true)
    (ty_Ratio : PySem.W.typeIn K (.ref f_Ratio) = some (.type "type"))
    (hn_class : PySem.W.specialIn K (.builtin "object.__class__") "__get__" = some (some (.builtin "getset_descriptor.__get__")))
    (ht_class : PySem.W.takesIn K (.builtin "object.__class__") = some true)
    (na_Ratio_top : PySem.W.findIn K (.ref f_Ratio) "_top" = some none)
    (na_Ratio_bottom : PySem.W.findIn K (.ref f_Ratio) "_bottom" = some none)
    (su_Ratio_int : PySem.W.subIn K (.type "int") (.ref f_Ratio) = some false)
    (a_ExtralinkError : PySem.W.nsIn K mainGlobals "ExtralinkError" = some (some (.ref f_ExtralinkError)))
    (a_as_ratio : PySem.W.nsIn K mainGlobals "as_ratio" = some (some (.ref f_as_ratio)))
    (l_as_ratio : K.lookup f_as_ratio = some ⟨oc_as_ratio, od_as_ratio, .func (PySem.W.fnOf "as_ratio" "as_ratio" (defArgs s_as_ratio) (defBody s_as_ratio) (defScope s_as_ratio) .none kV_as_ratio dc_as_ratio pm_as_ratio an_as_ratio cd_as_ratio ct_as_ratio), sl_as_ratio⟩)
    (c_as_ratio : PySem.W.codeIn K cd_as_ratio "as_ratio" = true)
    (k_as_ratio : PySem.W.keepIn K (.ref f_as_ratio) = true)
    (a_least : PySem.W.nsIn K mainGlobals "least" = some (some (.ref f_least)))
    (l_least : K.lookup f_least = some ⟨oc_least, od_least, .func (PySem.W.fnOf "least" "least" (defArgs s_least) (defBody s_least) (defScope s_least) .none kV_least dc_least pm_least an_least cd_least ct_least), sl_least⟩)
    (c_least : PySem.W.codeIn K cd_least "least" = true)
    (k_least : PySem.W.keepIn K (.ref f_least) = true)
    (a_greatest : PySem.W.nsIn K mainGlobals "greatest" = some (some (.ref f_greatest)))
    (l_greatest : K.lookup f_greatest = some ⟨oc_greatest, od_greatest, .func (PySem.W.fnOf "greatest" "greatest" (defArgs s_greatest) (defBody s_greatest) (defScope s_greatest) .none kV_greatest dc_greatest pm_greatest an_greatest cd_greatest ct_greatest), sl_greatest⟩)
    (c_greatest : PySem.W.codeIn K cd_greatest "greatest" = true)
    (k_greatest : PySem.W.keepIn K (.ref f_greatest) = true)
    (a_start : PySem.W.nsIn K mainGlobals "_law_start" = some (some (.ref f_start)))
    (l_start : K.lookup f_start = some ⟨oc_start, od_start, .func (PySem.W.fnOf "_law_start" "_law_start" (defArgs s_start) (defBody s_start) (defScope s_start) .none kV_start dc_start pm_start an_start cd_start ct_start), sl_start⟩)
    (c_start : PySem.W.codeIn K cd_start "_law_start" = true)
    (k_start : PySem.W.keepIn K (.ref f_start) = true)
    (a_draw : PySem.W.nsIn K mainGlobals "_law_draw" = some (some (.ref f_draw)))
    (l_draw : K.lookup f_draw = some ⟨oc_draw, od_draw, .func (PySem.W.fnOf "_law_draw" "_law_draw" (defArgs s_draw) (defBody s_draw) (defScope s_draw) .none kV_draw dc_draw pm_draw an_draw cd_draw ct_draw), sl_draw⟩)
    (c_draw : PySem.W.codeIn K cd_draw "_law_draw" = true)
    (k_draw : PySem.W.keepIn K (.ref f_draw) = true)
    (a_low : PySem.W.nsIn K mainGlobals "_law_low" = some (some (.ref f_low)))
    (l_low : K.lookup f_low = some ⟨oc_low, od_low, .func (PySem.W.fnOf "_law_low" "_law_low" (defArgs s_low) (defBody s_low) (defScope s_low) .none kV_low dc_low pm_low an_low cd_low ct_low), sl_low⟩)
    (c_low : PySem.W.codeIn K cd_low "_law_low" = true)
    (k_low : PySem.W.keepIn K (.ref f_low) = true)
    (a_less : PySem.W.nsIn K mainGlobals "_law_less" = some (some (.ref f_less)))
    (l_less : K.lookup f_less = some ⟨oc_less, od_less, .func (PySem.W.fnOf "_law_less" "_law_less" (defArgs s_less) (defBody s_less) (defScope s_less) .none kV_less dc_less pm_less an_less cd_less ct_less), sl_less⟩)
    (c_less : PySem.W.codeIn K cd_less "_law_less" = true)
    (k_less : PySem.W.keepIn K (.ref f_less) = true)
    (a_is : PySem.W.nsIn K mainGlobals "_law_is" = some (some (.ref f_is)))
    (l_is : K.lookup f_is = some ⟨oc_is, od_is, .func (PySem.W.fnOf "_law_is" "_law_is" (defArgs s_is) (defBody s_is) (defScope s_is) .none kV_is dc_is pm_is an_is cd_is ct_is), sl_is⟩)
    (c_is : PySem.W.codeIn K cd_is "_law_is" = true)
    (k_is : PySem.W.keepIn K (.ref f_is) = true)
    (a_value : PySem.W.nsIn K mainGlobals "_law_value" = some (some (.ref f_value)))
    (l_value : K.lookup f_value = some ⟨oc_value, od_value, .func (PySem.W.fnOf "_law_value" "_law_value" (defArgs s_value) (defBody s_value) (defScope s_value) .none kV_value dc_value pm_value an_value cd_value ct_value), sl_value⟩)
    (c_value : PySem.W.codeIn K cd_value "_law_value" = true)
    (k_value : PySem.W.keepIn K (.ref f_value) = true)
    (a_refused : PySem.W.nsIn K mainGlobals "_law_refused" = some (some (.ref f_refused)))
    (l_refused : K.lookup f_refused = some ⟨oc_refused, od_refused, .func (PySem.W.fnOf "_law_refused" "_law_refused" (defArgs s_refused) (defBody s_refused) (defScope s_refused) .none kV_refused dc_refused pm_refused an_refused cd_refused ct_refused), sl_refused⟩)
    (c_refused : PySem.W.codeIn K cd_refused "_law_refused" = true)
    (k_refused : PySem.W.keepIn K (.ref f_refused) = true)
    (a_extreme : PySem.W.nsIn K mainGlobals "_law_extreme" = some (some (.ref f_extreme)))
    (l_extreme : K.lookup f_extreme = some ⟨oc_extreme, od_extreme, .func (PySem.W.fnOf "_law_extreme" "_law_extreme" (defArgs s_extreme) (defBody s_extreme) (defScope s_extreme) .none kV_extreme dc_extreme pm_extreme an_extreme cd_extreme ct_extreme), sl_extreme⟩)
    (c_extreme : PySem.W.codeIn K cd_extreme "_law_extreme" = true)
    (k_extreme : PySem.W.keepIn K (.ref f_extreme) = true)
    (a_right : PySem.W.nsIn K mainGlobals "_law_right" = some (some (.ref f_right)))
    (l_right : K.lookup f_right = some ⟨oc_right, od_right, .func (PySem.W.fnOf "_law_right" "_law_right" (defArgs s_right) (defBody s_right) (defScope s_right) .none kV_right dc_right pm_right an_right cd_right ct_right), sl_right⟩)
    (c_right : PySem.W.codeIn K cd_right "_law_right" = true)
    (k_right : PySem.W.keepIn K (.ref f_right) = true)
    (a_BadCount_init : PySem.W.findIn K (.ref f_BadCount) "__init__" = some (some (.ref f_BadCount_init)))
    (i_BadCount_init : PySem.W.isFn K (.ref f_BadCount_init) = true)
    (l_BadCount_init : K.lookup f_BadCount_init = some ⟨oc_BadCount_init, od_BadCount_init, .func (PySem.W.fnOf "__init__" "BadCount.__init__" (defArgs s_BadCount_init) (defBody s_BadCount_init) (defScope s_BadCount_init) .none kV_BadCount_init dc_BadCount_init pm_BadCount_init an_BadCount_init cd_BadCount_init ct_BadCount_init), sl_BadCount_init⟩)
    (c_BadCount_init : PySem.W.codeIn K cd_BadCount_init "BadCount.__init__" = true)
    (k_BadCount_init : PySem.W.keepIn K (.ref f_BadCount_init) = true)
    (a_Ratio_init : PySem.W.findIn K (.ref f_Ratio) "__init__" = some (some (.ref f_Ratio_init)))
    (i_Ratio_init : PySem.W.isFn K (.ref f_Ratio_init) = true)
    (l_Ratio_init : K.lookup f_Ratio_init = some ⟨oc_Ratio_init, od_Ratio_init, .func (PySem.W.fnOf "__init__" "Ratio.__init__" (defArgs s_Ratio_init) (defBody s_Ratio_init) (defScope s_Ratio_init) (.ref dT_Ratio_init) kV_Ratio_init dc_Ratio_init pm_Ratio_init an_Ratio_init cd_Ratio_init ct_Ratio_init), sl_Ratio_init⟩)
    (c_Ratio_init : PySem.W.codeIn K cd_Ratio_init "Ratio.__init__" = true)
    (k_Ratio_init : PySem.W.keepIn K (.ref f_Ratio_init) = true)
    (t_Ratio_init : K.lookup dT_Ratio_init = some ⟨dc0_Ratio_init, dd0_Ratio_init, .seq #[.int 1 dt_Ratio_init] dn_Ratio_init, ds_Ratio_init⟩)
    (a_Ratio_top : PySem.W.findIn K (.ref f_Ratio) "top" = some (some (.ref p_Ratio_top)))
    (pg_Ratio_top : PySem.W.specialIn K (.ref p_Ratio_top) "__get__" = some (some (.builtin "property.__get__")))
    (pt_Ratio_top : PySem.W.takesIn K (.ref p_Ratio_top) = some true)
    (pr_Ratio_top : PySem.W.recIn K p_Ratio_top "property" = some (.ref f_Ratio_top :: rs_Ratio_top))
    (l_Ratio_top : K.lookup f_Ratio_top = some ⟨oc_Ratio_top, od_Ratio_top, .func (PySem.W.fnOf "top" "Ratio.top" (defArgs s_Ratio_top) (defBody s_Ratio_top) (defScope s_Ratio_top) .none kV_Ratio_top dc_Ratio_top pm_Ratio_top an_Ratio_top cd_Ratio_top ct_Ratio_top), sl_Ratio_top⟩)
    (c_Ratio_top : PySem.W.codeIn K cd_Ratio_top "Ratio.top" = true)
    (k_Ratio_top : PySem.W.keepIn K (.ref f_Ratio_top) = true)
    (a_Ratio_bottom : PySem.W.findIn K (.ref f_Ratio) "bottom" = some (some (.ref p_Ratio_bottom)))
    (pg_Ratio_bottom : PySem.W.specialIn K (.ref p_Ratio_bottom) "__get__" = some (some (.builtin "property.__get__")))
    (pt_Ratio_bottom : PySem.W.takesIn K (.ref p_Ratio_bottom) = some true)
    (pr_Ratio_bottom : PySem.W.recIn K p_Ratio_bottom "property" = some (.ref f_Ratio_bottom :: rs_Ratio_bottom))
    (l_Ratio_bottom : K.lookup f_Ratio_bottom = some ⟨oc_Ratio_bottom, od_Ratio_bottom, .func (PySem.W.fnOf "bottom" "Ratio.bottom" (defArgs s_Ratio_bottom) (defBody s_Ratio_bottom) (defScope s_Ratio_bottom) .none kV_Ratio_bottom dc_Ratio_bottom pm_Ratio_bottom an_Ratio_bottom cd_Ratio_bottom ct_Ratio_bottom), sl_Ratio_bottom⟩)
    (c_Ratio_bottom : PySem.W.codeIn K cd_Ratio_bottom "Ratio.bottom" = true)
    (k_Ratio_bottom : PySem.W.keepIn K (.ref f_Ratio_bottom) = true)
    (a_Ratio_below : PySem.W.findIn K (.ref f_Ratio) "below" = some (some (.ref f_Ratio_below)))
    (i_Ratio_below : PySem.W.isFn K (.ref f_Ratio_below) = true)
    (l_Ratio_below : K.lookup f_Ratio_below = some ⟨oc_Ratio_below, od_Ratio_below, .func (PySem.W.fnOf "below" "Ratio.below" (defArgs s_Ratio_below) (defBody s_Ratio_below) (defScope s_Ratio_below) .none kV_Ratio_below dc_Ratio_below pm_Ratio_below an_Ratio_below cd_Ratio_below ct_Ratio_below), sl_Ratio_below⟩)
    (c_Ratio_below : PySem.W.codeIn K cd_Ratio_below "Ratio.below" = true)
    (k_Ratio_below : PySem.W.keepIn K (.ref f_Ratio_below) = true)
    (a_Ratio_neg : PySem.W.findIn K (.ref f_Ratio) "__neg__" = some (some (.ref f_Ratio_neg)))
    (i_Ratio_neg : PySem.W.isFn K (.ref f_Ratio_neg) = true)
    (l_Ratio_neg : K.lookup f_Ratio_neg = some ⟨oc_Ratio_neg, od_Ratio_neg, .func (PySem.W.fnOf "__neg__" "Ratio.__neg__" (defArgs s_Ratio_neg) (defBody s_Ratio_neg) (defScope s_Ratio_neg) .none kV_Ratio_neg dc_Ratio_neg pm_Ratio_neg an_Ratio_neg cd_Ratio_neg ct_Ratio_neg), sl_Ratio_neg⟩)
    (c_Ratio_neg : PySem.W.codeIn K cd_Ratio_neg "Ratio.__neg__" = true)
    (k_Ratio_neg : PySem.W.keepIn K (.ref f_Ratio_neg) = true)
    (x_BadCount : ∃ nm q N bs bm sn sub ab col dd k0 k1 k2 k3 k5, K.lookup f_BadCount = some (excClassObj nm q f_BadCount N bs bm true sn sub ab col dd k0 k1 k2 k3 k5 "ValueError.__new__") ∧ PySem.HandSPX.refsVE bm = true)
    (xs_BadCount : PySem.W.findIn K (.ref f_BadCount) "__setattr__" = some (some (.builtin "object.__setattr__")))
    (xe_BadCount : PySem.W.subIn K (.ref f_BadCount) (.type "BaseException") = some true)
    (xt_BadCount : PySem.W.typeIn K (.ref f_BadCount) = some (.type "type"))
    (xk_BadCount : PySem.W.keepIn K (.ref f_BadCount) = true)
    (xg_BadCount : PySem.W.findIn K (.ref f_BadCount) "__getattribute__" = some (some (.builtin "BaseException.__getattribute__")))
    (xh_BadCount : PySem.W.findIn K (.ref f_BadCount) "__getattr__" = some none)
    (xd_BadCount : PySem.W.hasDictIn K f_BadCount = true)
    (xc_BadCount : PySem.W.findIn K (.ref f_BadCount) "__class__" = some (some (.builtin "object.__class__")))
    (xm_BadCount : PySem.W.mroIn K f_BadCount (.type "object") = some true)
    (xi_BadCount : PySem.W.isClsIn K f_BadCount = true)
    (xf_BadCount : PySem.W.typeIn K (.ref f_BadCount_init) = some (.type "function"))
    (no_BadCount_count : PySem.W.findIn K (.ref f_BadCount) "count" = some none)
    (es_BadCount_BadCount : PySem.W.subIn K (.ref f_BadCount) (.ref f_BadCount) = some true)
    (es_BadCount_ExtralinkError : PySem.W.subIn K (.ref f_BadCount) (.ref f_ExtralinkError) = some true)
    (xi_ExtralinkError : PySem.W.isClsIn K f_ExtralinkError = true)
    (xt_ExtralinkError : PySem.W.typeIn K (.ref f_ExtralinkError) = some (.type "type"))
    (nq_BadCount_ExtralinkError : (decide (Value.ref f_BadCount = Value.ref f_ExtralinkError)) = false)
    (g_gcd : PySem.W.nsIn K mainGlobals "gcd" = some (some (.builtin "math.gcd")))
    (z_abs : PySem.W.nsIn K mainGlobals "abs" = some none)
    (z_int : PySem.W.nsIn K mainGlobals "int" = some none)
    (z_isinstance : PySem.W.nsIn K mainGlobals "isinstance" = some none)
    (z_len : PySem.W.nsIn K mainGlobals "len" = some none)
    (z_list : PySem.W.nsIn K mainGlobals "list" = some none)
    (z_range : PySem.W.nsIn K mainGlobals "range" = some none)
    (z_tuple : PySem.W.nsIn K mainGlobals "tuple" = some none)
    (a_law : PySem.W.nsIn K mainGlobals "law" = some (some (.ref f_law)))
    (l_law : K.lookup f_law = some ⟨oc_law, od_law, .func (PySem.W.fnOf "law" "law" (defArgs s_law) (defBody s_law) (defScope s_law) .none kV_law dc_law pm_law an_law cd_law ct_law), sl_law⟩)
    (c_law : PySem.W.codeIn K cd_law "law" = true)
    (k_law : PySem.W.keepIn K (.ref f_law) = true)
    : ∃ fd : FuncData, (∀ (s : Shared) (v : Value), BindsTo s fd ⟨[v], []⟩ [("_law_script", v)]) ∧ ∀ base : Heap, K.In base → base.Ns mainGlobals mg → FnOk l.prog w K mg base CX0 11 fa fd ["_law_script"] (spLaw K) := by
  have e := hfa.symm.trans (PySem.W.mg_of X G a_law)
  cases e
  obtain ⟨e1_Ratio_init, ev1_Ratio_init, eb1_Ratio_init⟩ := FunD.binds1 (K := K) (f := f_Ratio_init) (fd := PySem.W.fnOf "__init__" "Ratio.__init__" (defArgs s_Ratio_init) (defBody s_Ratio_init) (defScope s_Ratio_init) (.ref dT_Ratio_init) kV_Ratio_init dc_Ratio_init pm_Ratio_init an_Ratio_init cd_Ratio_init ct_Ratio_init) (dvs := [V.int 1]) (kws := []) (ps := ["self", "top", "bottom"]) ⟨⟨_, _, _, _, _, _, _, _, _, _, rfl, l_Ratio_init, c_Ratio_init, .inr ⟨by simp, _, _, [.int 1 dt_Ratio_init], _, rfl, t_Ratio_init, rfl, .cons ⟨_, rfl⟩ .nil⟩, .inl rfl⟩, k_Ratio_init⟩ 2 0 (by simp) rfl fun _ _ _ _ _ _ _ us its hl hi => match us, hl, its, hi with | [_, _], _, [_], _ => ⟨_, rfl, rfl⟩
  obtain ⟨e2_Ratio_init, ev2_Ratio_init, eb2_Ratio_init⟩ := FunD.binds1 (K := K) (f := f_Ratio_init) (fd := PySem.W.fnOf "__init__" "Ratio.__init__" (defArgs s_Ratio_init) (defBody s_Ratio_init) (defScope s_Ratio_init) (.ref dT_Ratio_init) kV_Ratio_init dc_Ratio_init pm_Ratio_init an_Ratio_init cd_Ratio_init ct_Ratio_init) (dvs := [V.int 1]) (kws := []) (ps := ["self", "top", "bottom"]) ⟨⟨_, _, _, _, _, _, _, _, _, _, rfl, l_Ratio_init, c_Ratio_init, .inr ⟨by simp, _, _, [.int 1 dt_Ratio_init], _, rfl, t_Ratio_init, rfl, .cons ⟨_, rfl⟩ .nil⟩, .inl rfl⟩, k_Ratio_init⟩ 3 1 (by simp) rfl fun _ _ _ _ _ _ _ us its hl hi => match us, hl, its, hi with | [_, _, _], _, [_], _ => ⟨_, rfl, rfl⟩
  have T : Txt K mg := {
    f_BadCount := f_BadCount,
    m_BadCount := PySem.W.mg_of X G a_BadCount,
    f_Ratio := f_Ratio,
    m_Ratio := PySem.W.mg_of X G a_Ratio,
    cl_Ratio := ⟨pg_Ratio, hd_Ratio, po_Ratio, sa_Ratio⟩,
    ic_Ratio := ⟨⟨pg_Ratio, hd_Ratio, po_Ratio, sa_Ratio⟩, hc_Ratio, hn_class, ht_class, mo_Ratio, kit_self⟩,
    na_Ratio_top := na_Ratio_top,
    na_Ratio_bottom := na_Ratio_bottom,
    ki_Ratio_int := kit_not ic_Ratio ty_Ratio su_Ratio_int (fun z => nomatch z),
    f_ExtralinkError := f_ExtralinkError,
    m_ExtralinkError := PySem.W.mg_of X G a_ExtralinkError,
    f_as_ratio := f_as_ratio,
    d_as_ratio := PySem.W.fnOf "as_ratio" "as_ratio" (defArgs s_as_ratio) (defBody s_as_ratio) (defScope s_as_ratio) .none kV_as_ratio dc_as_ratio pm_as_ratio an_as_ratio cd_as_ratio ct_as_ratio,
    F_as_ratio := fun_mk (st := s_as_ratio) l_as_ratio c_as_ratio k_as_ratio,
    b_as_ratio := (fun_mk (st := s_as_ratio) l_as_ratio c_as_ratio k_as_ratio).binds (ps := ["value"]) fun _ _ _ _ _ _ us hl => match us, hl with | [_], _ => rfl,
    m_as_ratio := PySem.W.mg_of X G a_as_ratio,
    f_least := f_least,
    d_least := PySem.W.fnOf "least" "least" (defArgs s_least) (defBody s_least) (defScope s_least) .none kV_least dc_least pm_least an_least cd_least ct_least,
    F_least := fun_mk (st := s_least) l_least c_least k_least,
    b_least := (fun_mk (st := s_least) l_least c_least k_least).binds (ps := ["values"]) fun _ _ _ _ _ _ us hl => match us, hl with | [_], _ => rfl,
    m_least := PySem.W.mg_of X G a_least,
    f_greatest := f_greatest,
    d_greatest := PySem.W.fnOf "greatest" "greatest" (defArgs s_greatest) (defBody s_greatest) (defScope s_greatest) .none kV_greatest dc_greatest pm_greatest an_greatest cd_greatest ct_greatest,
    F_greatest := fun_mk (st := s_greatest) l_greatest c_greatest k_greatest,
    b_greatest := (fun_mk (st := s_greatest) l_greatest c_greatest k_greatest).binds (ps := ["values"]) fun _ _ _ _ _ _ us hl => match us, hl with | [_], _ => rfl,
    m_greatest := PySem.W.mg_of X G a_greatest,
    f_start := f_start,
    d_start := PySem.W.fnOf "_law_start" "_law_start" (defArgs s_start) (defBody s_start) (defScope s_start) .none kV_start dc_start pm_start an_start cd_start ct_start,
    F_start := fun_mk (st := s_start) l_start c_start k_start,
    b_start := (fun_mk (st := s_start) l_start c_start k_start).binds (ps := ["_law_script"]) fun _ _ _ _ _ _ us hl => match us, hl with | [_], _ => rfl,
    m_start := PySem.W.mg_of X G a_start,
    f_draw := f_draw,
    d_draw := PySem.W.fnOf "_law_draw" "_law_draw" (defArgs s_draw) (defBody s_draw) (defScope s_draw) .none kV_draw dc_draw pm_draw an_draw cd_draw ct_draw,
    F_draw := fun_mk (st := s_draw) l_draw c_draw k_draw,
    b_draw := (fun_mk (st := s_draw) l_draw c_draw k_draw).binds (ps := ["_law_state", "_law_size"]) fun _ _ _ _ _ _ us hl => match us, hl with | [_, _], _ => rfl,
    m_draw := PySem.W.mg_of X G a_draw,
    f_low := f_low,
    d_low := PySem.W.fnOf "_law_low" "_law_low" (defArgs s_low) (defBody s_low) (defScope s_low) .none kV_low dc_low pm_low an_low cd_low ct_low,
    F_low := fun_mk (st := s_low) l_low c_low k_low,
    b_low := (fun_mk (st := s_low) l_low c_low k_low).binds (ps := ["_law_up", "_law_down"]) fun _ _ _ _ _ _ us hl => match us, hl with | [_, _], _ => rfl,
    m_low := PySem.W.mg_of X G a_low,
    f_less := f_less,
    d_less := PySem.W.fnOf "_law_less" "_law_less" (defArgs s_less) (defBody s_less) (defScope s_less) .none kV_less dc_less pm_less an_less cd_less ct_less,
    F_less := fun_mk (st := s_less) l_less c_less k_less,
    b_less := (fun_mk (st := s_less) l_less c_less k_less).binds (ps := ["_law_one", "_law_two"]) fun _ _ _ _ _ _ us hl => match us, hl with | [_, _], _ => rfl,
    m_less := PySem.W.mg_of X G a_less,
    f_is := f_is,
    d_is := PySem.W.fnOf "_law_is" "_law_is" (defArgs s_is) (defBody s_is) (defScope s_is) .none kV_is dc_is pm_is an_is cd_is ct_is,
    F_is := fun_mk (st := s_is) l_is c_is k_is,
    b_is := (fun_mk (st := s_is) l_is c_is k_is).binds (ps := ["_law_actual", "_law_pair"]) fun _ _ _ _ _ _ us hl => match us, hl with | [_, _], _ => rfl,
    m_is := PySem.W.mg_of X G a_is,
    f_value := f_value,
    d_value := PySem.W.fnOf "_law_value" "_law_value" (defArgs s_value) (defBody s_value) (defScope s_value) .none kV_value dc_value pm_value an_value cd_value ct_value,
    F_value := fun_mk (st := s_value) l_value c_value k_value,
    b_value := (fun_mk (st := s_value) l_value c_value k_value).binds (ps := ["_law_state", "_law_pair"]) fun _ _ _ _ _ _ us hl => match us, hl with | [_, _], _ => rfl,
    m_value := PySem.W.mg_of X G a_value,
    f_refused := f_refused,
    d_refused := PySem.W.fnOf "_law_refused" "_law_refused" (defArgs s_refused) (defBody s_refused) (defScope s_refused) .none kV_refused dc_refused pm_refused an_refused cd_refused ct_refused,
    F_refused := fun_mk (st := s_refused) l_refused c_refused k_refused,
    b_refused := (fun_mk (st := s_refused) l_refused c_refused k_refused).binds (ps := []) fun _ _ _ _ _ _ us hl => match us, hl with | [], _ => rfl,
    m_refused := PySem.W.mg_of X G a_refused,
    f_extreme := f_extreme,
    d_extreme := PySem.W.fnOf "_law_extreme" "_law_extreme" (defArgs s_extreme) (defBody s_extreme) (defScope s_extreme) .none kV_extreme dc_extreme pm_extreme an_extreme cd_extreme ct_extreme,
    F_extreme := fun_mk (st := s_extreme) l_extreme c_extreme k_extreme,
    b_extreme := (fun_mk (st := s_extreme) l_extreme c_extreme k_extreme).binds (ps := ["_law_pairs", "_law_turn"]) fun _ _ _ _ _ _ us hl => match us, hl with | [_, _], _ => rfl,
    m_extreme := PySem.W.mg_of X G a_extreme,
    f_right := f_right,
    d_right := PySem.W.fnOf "_law_right" "_law_right" (defArgs s_right) (defBody s_right) (defScope s_right) .none kV_right dc_right pm_right an_right cd_right ct_right,
    F_right := fun_mk (st := s_right) l_right c_right k_right,
    b_right := (fun_mk (st := s_right) l_right c_right k_right).binds (ps := ["_law_given", "_law_pairs"]) fun _ _ _ _ _ _ us hl => match us, hl with | [_, _], _ => rfl,
    m_right := PySem.W.mg_of X G a_right,
    f_BadCount_init := f_BadCount_init,
    d_BadCount_init := PySem.W.fnOf "__init__" "BadCount.__init__" (defArgs s_BadCount_init) (defBody s_BadCount_init) (defScope s_BadCount_init) .none kV_BadCount_init dc_BadCount_init pm_BadCount_init an_BadCount_init cd_BadCount_init ct_BadCount_init,
    F_BadCount_init := fun_mk (st := s_BadCount_init) l_BadCount_init c_BadCount_init k_BadCount_init,
    b_BadCount_init := (fun_mk (st := s_BadCount_init) l_BadCount_init c_BadCount_init k_BadCount_init).binds (ps := ["self", "count"]) fun _ _ _ _ _ _ us hl => match us, hl with | [_, _], _ => rfl,
    a_BadCount_init := a_BadCount_init,
    i_BadCount_init := i_BadCount_init,
    f_Ratio_init := f_Ratio_init,
    d_Ratio_init := PySem.W.fnOf "__init__" "Ratio.__init__" (defArgs s_Ratio_init) (defBody s_Ratio_init) (defScope s_Ratio_init) (.ref dT_Ratio_init) kV_Ratio_init dc_Ratio_init pm_Ratio_init an_Ratio_init cd_Ratio_init ct_Ratio_init,
    F_Ratio_init := ⟨⟨_, _, _, _, _, _, _, _, _, _, rfl, l_Ratio_init, c_Ratio_init, .inr ⟨by simp, _, _, [.int 1 dt_Ratio_init], _, rfl, t_Ratio_init, rfl, .cons ⟨_, rfl⟩ .nil⟩, .inl rfl⟩, k_Ratio_init⟩,
    a_Ratio_init := a_Ratio_init,
    i_Ratio_init := i_Ratio_init,
    mk_Ratio := ⟨mk_Ratio, a_Ratio_init, i_Ratio_init, kc_Ratio⟩,
    f_Ratio_top := f_Ratio_top,
    d_Ratio_top := PySem.W.fnOf "top" "Ratio.top" (defArgs s_Ratio_top) (defBody s_Ratio_top) (defScope s_Ratio_top) .none kV_Ratio_top dc_Ratio_top pm_Ratio_top an_Ratio_top cd_Ratio_top ct_Ratio_top,
    F_Ratio_top := fun_mk (st := s_Ratio_top) l_Ratio_top c_Ratio_top k_Ratio_top,
    b_Ratio_top := (fun_mk (st := s_Ratio_top) l_Ratio_top c_Ratio_top k_Ratio_top).binds (ps := ["self"]) fun _ _ _ _ _ _ us hl => match us, hl with | [_], _ => rfl,
    p0_Ratio_top := p_Ratio_top,
    p_Ratio_top := ⟨a_Ratio_top, pg_Ratio_top, pt_Ratio_top, ⟨_, pr_Ratio_top⟩⟩,
    f_Ratio_bottom := f_Ratio_bottom,
    d_Ratio_bottom := PySem.W.fnOf "bottom" "Ratio.bottom" (defArgs s_Ratio_bottom) (defBody s_Ratio_bottom) (defScope s_Ratio_bottom) .none kV_Ratio_bottom dc_Ratio_bottom pm_Ratio_bottom an_Ratio_bottom cd_Ratio_bottom ct_Ratio_bottom,
    F_Ratio_bottom := fun_mk (st := s_Ratio_bottom) l_Ratio_bottom c_Ratio_bottom k_Ratio_bottom,
    b_Ratio_bottom := (fun_mk (st := s_Ratio_bottom) l_Ratio_bottom c_Ratio_bottom k_Ratio_bottom).binds (ps := ["self"]) fun _ _ _ _ _ _ us hl => match us, hl with | [_], _ => rfl,
    p0_Ratio_bottom := p_Ratio_bottom,
    p_Ratio_bottom := ⟨a_Ratio_bottom, pg_Ratio_bottom, pt_Ratio_bottom, ⟨_, pr_Ratio_bottom⟩⟩,
    f_Ratio_below := f_Ratio_below,
    d_Ratio_below := PySem.W.fnOf "below" "Ratio.below" (defArgs s_Ratio_below) (defBody s_Ratio_below) (defScope s_Ratio_below) .none kV_Ratio_below dc_Ratio_below pm_Ratio_below an_Ratio_below cd_Ratio_below ct_Ratio_below,
    F_Ratio_below := fun_mk (st := s_Ratio_below) l_Ratio_below c_Ratio_below k_Ratio_below,
    b_Ratio_below := (fun_mk (st := s_Ratio_below) l_Ratio_below c_Ratio_below k_Ratio_below).binds (ps := ["self", "value"]) fun _ _ _ _ _ _ us hl => match us, hl with | [_, _], _ => rfl,
    a_Ratio_below := a_Ratio_below,
    i_Ratio_below := i_Ratio_below,
    f_Ratio_neg := f_Ratio_neg,
    d_Ratio_neg := PySem.W.fnOf "__neg__" "Ratio.__neg__" (defArgs s_Ratio_neg) (defBody s_Ratio_neg) (defScope s_Ratio_neg) .none kV_Ratio_neg dc_Ratio_neg pm_Ratio_neg an_Ratio_neg cd_Ratio_neg ct_Ratio_neg,
    F_Ratio_neg := fun_mk (st := s_Ratio_neg) l_Ratio_neg c_Ratio_neg k_Ratio_neg,
    b_Ratio_neg := (fun_mk (st := s_Ratio_neg) l_Ratio_neg c_Ratio_neg k_Ratio_neg).binds (ps := ["self"]) fun _ _ _ _ _ _ us hl => match us, hl with | [_], _ => rfl,
    a_Ratio_neg := a_Ratio_neg,
    i_Ratio_neg := i_Ratio_neg,
    me_Ratio_below := ⟨a_Ratio_below, i_Ratio_below, k_Ratio_below⟩,
    e1_Ratio_init := e1_Ratio_init,
    v1_Ratio_init := ev1_Ratio_init,
    b1_Ratio_init := eb1_Ratio_init,
    e2_Ratio_init := e2_Ratio_init,
    v2_Ratio_init := ev2_Ratio_init,
    b2_Ratio_init := eb2_Ratio_init,
    ox_BadCount := ⟨x_BadCount, xs_BadCount, xe_BadCount, xt_BadCount, xk_BadCount⟩,
    ix_BadCount := a_BadCount_init,
    tx_BadCount := xf_BadCount,
    xf_BadCount := ⟨xg_BadCount, xh_BadCount, xe_BadCount, xd_BadCount⟩,
    ec_BadCount := ⟨xg_BadCount, xh_BadCount, xe_BadCount, xd_BadCount, xc_BadCount, hn_class, ht_class, xm_BadCount⟩,
    no_BadCount_count := no_BadCount_count,
    es_BadCount_BadCount := es_BadCount_BadCount,
    xi_BadCount_BadCount := xi_BadCount,
    xt_BadCount_BadCount := xt_BadCount,
    es_BadCount_ExtralinkError := es_BadCount_ExtralinkError,
    neq_BadCount_ExtralinkError := of_decide_eq_false nq_BadCount_ExtralinkError,
    xi_BadCount_ExtralinkError := xi_ExtralinkError,
    xt_BadCount_ExtralinkError := xt_ExtralinkError,
    kb_greatest_0_values := kbinds_all (by decide) fun _ ws _ hl => match ws, hl with | [_], _ => .of_eq rfl,
    kb_least_0_values := kbinds_all (by decide) fun _ ws _ hl => match ws, hl with | [_], _ => .of_eq rfl,
    g_gcd := PySem.W.mg_of X G g_gcd,
    n_abs := PySem.W.mg_none_of X G z_abs,
    n_int := PySem.W.mg_none_of X G z_int,
    n_isinstance := PySem.W.mg_none_of X G z_isinstance,
    n_len := PySem.W.mg_none_of X G z_len,
    n_list := PySem.W.mg_none_of X G z_list,
    n_range := PySem.W.mg_none_of X G z_range,
    n_tuple := PySem.W.mg_none_of X G z_tuple }
  exact ⟨PySem.W.fnOf "law" "law" (defArgs s_law) (defBody s_law) (defScope s_law) .none kV_law dc_law pm_law an_law cd_law ct_law, fun s v => .of_eq rfl, fun base _ _ => ok_law T (fun_mk (st := s_law) l_law c_law k_law)⟩
end My
open PySem PySem.W PyProof.Rows
set_option maxRecDepth 100000 in
set_option maxHeartbeats 0 in
theorem PySem.Challenge.cw_extralink_k05_least_and_greatest_holds : PySem.Challenge.rw_extralink_k05_least_and_greatest.Holds := by
  w_on; o_law; k_head; (case hw => w_witness2)
  k_fill
  refine L2.walk_of (l := PySem.Challenge.rw_extralink_k05_least_and_greatest) (n := 63) (k := 11) (x := "_law_script") (CX := fun _ => L2.CX0) (sp := fun w => My.spLaw _) rfl (by decide) rfl ⟨rfl, by decide, by decide⟩ (fun w h Y => PySem.W.kIn_of Y) ?F (fun _ _ a ns hl _ hS => ⟨a, ns, rfl, hS, hl, fun _ => rfl⟩) (fun _ _ _ _ _ h => h)
  case F =>
    intro w mg fa h KX G hmg
    refine' My.all_mk KX G hmg ?a_BadCount ?a_Ratio ?pg_Ratio ?hd_Ratio ?po_Ratio ?sa_Ratio ?mk_Ratio ?kc_Ratio ?hc_Ratio ?mo_Ratio ?ic_Ratio ?ty_Ratio ?hn_class ?ht_class ?na_Ratio_top ?na_Ratio_bottom ?su_Ratio_int ?a_ExtralinkError ?a_as_ratio ?l_as_ratio ?c_as_ratio ?k_as_ratio ?a_least ?l_least ?c_least ?k_least ?a_greatest ?l_greatest ?c_greatest ?k_greatest ?a_start ?l_start ?c_start ?k_start ?a_draw ?l_draw ?c_draw ?k_draw ?a_low ?l_low ?c_low ?k_low ?a_less ?l_less ?c_less ?k_less ?a_is ?l_is ?c_is ?k_is ?a_value ?l_value ?c_value ?k_value ?a_refused ?l_refused ?c_refused ?k_refused ?a_extreme ?l_extreme ?c_extreme ?k_extreme ?a_right ?l_right ?c_right ?k_right ?a_BadCount_init ?i_BadCount_init ?l_BadCount_init ?c_BadCount_init ?k_BadCount_init ?a_Ratio_init ?i_Ratio_init ?l_Ratio_init ?c_Ratio_init ?k_Ratio_init ?t_Ratio_init ?a_Ratio_top ?pg_Ratio_top ?pt_Ratio_top ?pr_Ratio_top ?l_Ratio_top ?c_Ratio_top ?k_Ratio_top ?a_Ratio_bottom ?pg_Ratio_bottom ?pt_Ratio_bottom ?pr_Ratio_bottom ?l_Ratio_bottom ?c_Ratio_bottom ?k_Ratio_bottom ?a_Ratio_below ?i_Ratio_below ?l_Ratio_below ?c_Ratio_below ?k_Ratio_below ?a_Ratio_neg ?i_Ratio_neg ?l_Ratio_neg ?c_Ratio_neg ?k_Ratio_neg ?x_BadCount ?xs_BadCount ?xe_BadCount ?xt_BadCount ?xk_BadCount ?xg_BadCount ?xh_BadCount ?xd_BadCount ?xc_BadCount ?xm_BadCount ?xi_BadCount ?xf_BadCount ?no_BadCount_count ?es_BadCount_BadCount ?es_BadCount_ExtralinkError ?xi_ExtralinkError ?xt_ExtralinkError ?nq_BadCount_ExtralinkError ?g_gcd ?z_abs ?z_int ?z_isinstance ?z_len ?z_list ?z_range ?z_tuple ?a_law ?l_law ?c_law ?k_law
    (case a_BadCount => k_is)
    (case a_Ratio => k_is)
    (case pg_Ratio => k_is)
    (case hd_Ratio => k_is)
    (case po_Ratio => k_is)
    (case sa_Ratio => k_is)
    (case mk_Ratio => k_is)
    (case kc_Ratio => k_is)
    (case hc_Ratio => k_is)
    (case mo_Ratio => k_is)
    (case ic_Ratio => k_is)
    (case ty_Ratio => k_is)
    (case hn_class => k_is)
    (case ht_class => k_is)
    (case na_Ratio_top => k_is)
    (case na_Ratio_bottom => k_is)
    (case su_Ratio_int => k_is)
    (case a_ExtralinkError => k_is)
    (case a_as_ratio => k_is)
    (case l_as_ratio => k_is)
    (case c_as_ratio => k_is)
    (case k_as_ratio => k_is)
    (case a_least => k_is)
    (case l_least => k_is)
    (case c_least => k_is)
    (case k_least => k_is)
    (case a_greatest => k_is)
    (case l_greatest => k_is)
    (case c_greatest => k_is)
    (case k_greatest => k_is)
    (case a_start => k_is)
    (case l_start => k_is)
    (case c_start => k_is)
    (case k_start => k_is)
    (case a_draw => k_is)
    (case l_draw => k_is)
    (case c_draw => k_is)
    (case k_draw => k_is)
    (case a_low => k_is)
    (case l_low => k_is)
    (case c_low => k_is)
    (case k_low => k_is)
    (case a_less => k_is)
    (case l_less => k_is)
    (case c_less => k_is)
    (case k_less => k_is)
    (case a_is => k_is)
    (case l_is => k_is)
    (case c_is => k_is)
    (case k_is => k_is)
    (case a_value => k_is)
    (case l_value => k_is)
    (case c_value => k_is)
    (case k_value => k_is)
    (case a_refused => k_is)
    (case l_refused => k_is)
    (case c_refused => k_is)
    (case k_refused => k_is)
    (case a_extreme => k_is)
    (case l_extreme => k_is)
    (case c_extreme => k_is)
    (case k_extreme => k_is)
    (case a_right => k_is)
    (case l_right => k_is)
    (case c_right => k_is)
    (case k_right => k_is)
    (case a_BadCount_init => k_is)
    (case i_BadCount_init => k_is)
    (case l_BadCount_init => k_is)
    (case c_BadCount_init => k_is)
    (case k_BadCount_init => k_is)
    (case a_Ratio_init => k_is)
    (case i_Ratio_init => k_is)
    (case l_Ratio_init => k_is)
    (case c_Ratio_init => k_is)
    (case k_Ratio_init => k_is)
    (case t_Ratio_init => k_is)
    (case a_Ratio_top => k_is)
    (case pg_Ratio_top => k_is)
    (case pt_Ratio_top => k_is)
    (case pr_Ratio_top => k_is)
    (case l_Ratio_top => k_is)
    (case c_Ratio_top => k_is)
    (case k_Ratio_top => k_is)
    (case a_Ratio_bottom => k_is)
    (case pg_Ratio_bottom => k_is)
    (case pt_Ratio_bottom => k_is)
    (case pr_Ratio_bottom => k_is)
    (case l_Ratio_bottom => k_is)
    (case c_Ratio_bottom => k_is)
    (case k_Ratio_bottom => k_is)
    (case a_Ratio_below => k_is)
    (case i_Ratio_below => k_is)
    (case l_Ratio_below => k_is)
    (case c_Ratio_below => k_is)
    (case k_Ratio_below => k_is)
    (case a_Ratio_neg => k_is)
    (case i_Ratio_neg => k_is)
    (case l_Ratio_neg => k_is)
    (case c_Ratio_neg => k_is)
    (case k_Ratio_neg => k_is)
    (case x_BadCount => exact ⟨_, _, _, _, _, _, _, _, _, _, _, _, _, _, _, by k_is, by decide +kernel⟩)
    (case xs_BadCount => k_is)
    (case xe_BadCount => k_is)
    (case xt_BadCount => k_is)
    (case xk_BadCount => k_is)
    (case xg_BadCount => k_is)
    (case xh_BadCount => k_is)
    (case xd_BadCount => k_is)
    (case xc_BadCount => k_is)
    (case xm_BadCount => k_is)
    (case xi_BadCount => k_is)
    (case xf_BadCount => k_is)
    (case no_BadCount_count => k_is)
    (case es_BadCount_BadCount => k_is)
    (case es_BadCount_ExtralinkError => k_is)
    (case xi_ExtralinkError => k_is)
    (case xt_ExtralinkError => k_is)
    (case nq_BadCount_ExtralinkError => decide)
    (case g_gcd => k_is)
    (case z_abs => k_is)
    (case z_int => k_is)
    (case z_isinstance => k_is)
    (case z_len => k_is)
    (case z_list => k_is)
    (case z_range => k_is)
    (case z_tuple => k_is)
    (case a_law => k_is)
    (case l_law => k_is)
    (case c_law => k_is)
    (case k_law => k_is)

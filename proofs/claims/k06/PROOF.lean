import PyProof.Rows.All
import Wide.All
import OpenK.AllK
import Wide.FinOn
import HandS.Base
import HandS.Call
import HandS.List
import HandS.Comp
import HandS.Ends
import HandS.Dict
import HandS.Iter
import HandS.Text
import HandS.Words
import HandS.WordsList
import HandS.WordsDict
import HandS.Wide
import HandS.IsInst
import HandS.Codes
import HandS.Property
import HandS.ClsMeth
import HandS.Defaults
import HandS.MakeKw
import HandS.CallLocal
import HandS.CallSlots
import HandS.Exc
import HandS.ExcInit
import HandS.ExcField
import HandS.ExcIs
import HandS.ExcOwn
import HandS.TryOnly
import HandS.WordsExc
import HandS.Gcd
import HandS.FStr
import HandS.StrMore
import HandS.WideBits
import HandS.Style
import HandS.OwnEq
import OpenK.KMeth
import KE.KOpsOwn
import HandS.TupAny
import PySem.Challenge.RW_extralink_k06_whole_ratio_script
set_option Elab.async false
set_option linter.all false
set_option maxRecDepth 100000
/-! My own rules beside the hand layer's: an item of a list read for a store in place, a text backwards, a call by keywords alone; what is said of lists of ints as data. -/
namespace My
open PySem PySem.Spec PyProof.Rows L2

/-! ### rules -/
section
variable {X : Cx}
def rGetL (K : PySem.W.Frag) : V → V → Hp → VK → Prop := fun x y H Q => ∃ p xs i v, x = .ref p ∧ y = .int i ∧ SqL K H p xs ∧ 0 ≤ i ∧ atI xs i = some v ∧ Q v H
theorem get_list : PGet X (rGetL X.K) := by
  intro pins s σ H o i ov iv Q I ro ri h
  obtain ⟨p, xs, k, z, rfl, rfl, hq, h0, he, q⟩ := h
  cases ro
  obtain ⟨t, rfl⟩ := ri
  obtain ⟨its, r, pl, hz⟩ := I.list hq
  obtain ⟨j, h1, h2, h3, h4, h5⟩ := atI_get he
  obtain ⟨w, ew, rw'⟩ := r.get h2
  have hl := r.length
  have hn := line63
  have hj : k.toNat = j := by
    rw [seqIndex_of h0 h5] at h1
    exact Option.some.inj h1
  exact wpAny_getItem_list pl.isList h0 (by omega) (by rw [hj]; simpa using ew) ⟨z, H, I, rw', q⟩

def revS (z : Str) : Str := ⟨z.cps.reverse⟩
def tRevS (te : TE) : TE := fun σ H Q => te σ H fun x H1 => ∃ z, x = .str z ∧ z.length ≤ sizeLine ∧ Q (.str (revS z)) H1
theorem range_back (n : Nat) : sliceRange ((n : Int) - 1) (-1) (-1) = (List.range n).map fun k => n - 1 - k := by
  unfold sliceRange
  have e : (if (-1 : Int) > 0 then (if ((n : Int) - 1) < -1 then (-1 - ((n : Int) - 1) + -1 - 1) / -1 else 0) else (if ((n : Int) - 1) > -1 then (((n : Int) - 1) - -1 - -1 - 1) / (- -1) else 0)).toNat = n := by
    rw [if_neg (by decide)]
    by_cases h : ((n : Int) - 1) > -1
    · rw [if_pos h, show (- -1 : Int) = 1 by decide, Int.ediv_one]
      omega
    · rw [if_neg h]
      omega
  show List.map (fun (k : Nat) => (((n : Int) - 1) + (-1) * (k : Int)).toNat) (List.range (Int.toNat (if (-1 : Int) > 0 then (if ((n : Int) - 1) < -1 then (-1 - ((n : Int) - 1) + -1 - 1) / -1 else 0) else (if ((n : Int) - 1) > -1 then (((n : Int) - 1) - -1 - -1 - 1) / (- -1) else 0)))) = _
  rw [e]
  refine List.map_congr_left fun k hk => ?_
  have := List.mem_range.mp hk
  omega
theorem filterMap_back (z : Array Nat) : (((List.range z.size).map fun k => z.size - 1 - k).filterMap (z[·]?)) = z.toList.reverse := by
  refine List.ext_getElem? fun i => ?_
  have e : (((List.range z.size).map fun k => z.size - 1 - k).filterMap (z[·]?)) = (List.range z.size).map fun k => z.getD (z.size - 1 - k) 0 := by
    rw [List.filterMap_map]
    have : ∀ l : List Nat, (∀ k ∈ l, k < z.size) → l.filterMap ((fun x => z[x]?) ∘ fun k => z.size - 1 - k) = l.map fun k => z.getD (z.size - 1 - k) 0 := by
      intro l
      induction l with
      | nil => intro _; rfl
      | cons a r ih =>
        intro h
        have ha := h a List.mem_cons_self
        have hb : z.size - 1 - a < z.size := by omega
        rw [List.filterMap_cons]
        have e1 : ((fun x => z[x]?) ∘ fun k => z.size - 1 - k) a = some (z.getD (z.size - 1 - a) 0) := by
          show z[z.size - 1 - a]? = _
          rw [Array.getElem?_eq_getElem hb]
          simp [Array.getD, hb]
        rw [e1, List.map_cons, ih fun k hk => h k (List.mem_cons_of_mem _ hk)]
    exact this _ fun k hk => List.mem_range.mp hk
  rw [e, List.getElem?_map]
  by_cases hi : i < z.size
  · rw [List.getElem?_range hi, List.getElem?_reverse (by simpa using hi)]
    have hb : z.size - 1 - i < z.size := by omega
    simp [Array.getD, hb]
  · rw [List.getElem?_eq_none (by simpa using hi), List.getElem?_eq_none (by simpa using hi)]
    rfl
theorem pe_revS {e : Expr} {te : TE} {k : Nat} {p1 p2 p3 pos : Pos} (he : PE X e te) : PE X (.Subscript e (.Slice none none (some (.UnaryOp .USub (.Constant (.int 1) k p1) p2)) p3) pos) (tRevS te) := by
  refine ⟨fun pins s σ H Q I h => ?_⟩
  refine Subscript_ (thn (he.run pins s σ H _ I h) fun v s1 ⟨x, H1, I1, r1, q1⟩ => ?_)
  obtain ⟨z, ex, hz, q⟩ := q1
  subst ex
  obtain ⟨tz, rfl⟩ := r1
  have hst : PO X (some (.UnaryOp .USub (.Constant (.int 1) k p1) p2)) (tPart (tUn (rU fun i => .int (-i)) (tC (.int 1)))) := po_some (pe_un un_neg pe_int)
  refine wpAny_Slice (thn (po_none.run pins s1 σ H1 (fun o H2 => o = none ∧ H2 = H1) I1 ⟨rfl, rfl⟩) fun vl s2 ⟨l, H2, I2, pl, el, e2⟩ => ?_)
  subst el e2
  refine thn (po_none.run pins s2 σ H2 (fun o H3 => o = none ∧ H3 = H2) I2 ⟨rfl, rfl⟩) fun vu s3 ⟨u, H3, I3, pu, eu, e3⟩ => ?_
  subst eu e3
  refine thn (hst.run pins s3 σ H3 (fun o H4 => o = some (-1) ∧ H4 = H3) I3 ⟨1, rfl, -1, rfl, rfl, rfl⟩) fun vs s4 ⟨o, H4, I4, ps, eo, e4⟩ => ?_
  subst eo e4
  have I5 : Inv X pins σ H4 { s4 with heap := s4.heap.push { cls := .type "slice", data := .fields #[vl, vu, vs] } } := I4.kept (t' := s4.toks) fun b ob q => Heap.get?_push_of_some _ q
  obtain ⟨l, rfl, el⟩ := IsPart.raw pl
  obtain ⟨u, rfl, eu⟩ := IsPart.raw pu
  obtain ⟨st, rfl, est⟩ := IsPart.raw ps
  cases l with
  | some _ => cases el
  | none =>
  cases u with
  | some _ => cases eu
  | none =>
  cases st with
  | none => cases est
  | some st =>
  obtain ⟨k1, tk⟩ := st
  have ek : k1 = -1 := Option.some.inj est
  subst ek
  show wpAny (model X.prog X.w) X.A (subscriptTail e (.Slice none none (some (.UnaryOp .USub (.Constant (.int 1) k p1) p2)) p3) (.str z tz) (.ref s4.heap.objs.size)) (EP X pins σ Q) X.xe { s4 with heap := s4.heap.push { cls := .type "slice", data := .fields #[.none, .none, .int (-1) tk] } }
  refine tail_any (ops := [.ref s4.heap.objs.size, .str z tz]) (typeIs_str _ _ _) F.slot_str_getitem.lookup ?_ (by with_unfolding_all rfl)
  refine wpAny_getItem_str_slice (l := none) (u := none) (st := some (-1, tk)) ⟨_, Heap.get?_push_size _ rfl, rfl, rfl⟩ rfl ?_
  have hp : slicePicked z none none (some (-1, tk)) = (List.range z.cps.size).map fun k => z.cps.size - 1 - k := by
    show Builtin.Str.strSliceIndices none none (-1) z.length = _
    unfold Builtin.Str.strSliceIndices
    exact range_back z.length
  have hr : (⟨((slicePicked z none none (some (-1, tk))).filterMap (z.cps[·]?)).toArray⟩ : Str) = revS z := by
    rw [hp, filterMap_back]
    unfold revS
    congr 1
    apply Array.ext'
    simp
  show Made.post (if ((-1 : Int) == 1 && (slicePicked z none none (some (-1, tk))).length == z.length) = true then Made.val (.str z tz) else Made.str ⟨((slicePicked z none none (some (-1, tk))).filterMap (z.cps[·]?)).toArray⟩) (EP X pins σ Q) _
  rw [if_neg (by rw [show ((-1 : Int) == 1) = false by decide, Bool.false_and]; exact Bool.false_ne_true), hr]
  refine ⟨?_, .str _, H4, I5.tok _, ⟨_, rfl⟩, q⟩
  show (revS z).cps.size ≤ sizeLine
  unfold revS
  rw [Array.size_reverse]
  exact hz

section
variable {CX : CXT} {k : Nat} {f : Addr} {fd : FuncData} {ps ks : List Str} {sp : Sp} {E : XK} {x : Str} {p pos : Pos} {kws : List Keyword} {tk : TA} {g : List Value → List Value → List Value} {gV : List V → List V → List V}
def tCallK0 (sp : Sp) (gV : List V → List V → List V) (E : XK) (tk : TA) : TE := fun σ H Q => tk σ H fun zs H2 => sp (gV [] zs) H2 Q E
/-- f(k = v, ..), nothing by place -/
theorem pe_callK0 (F : FnOk X.prog X.w X.K X.mg X.base CX k f fd ps sp) (hr : Room k X.A) (hg : Gl X x) (hm : X.mg x = some (.ref f)) (hk : PySem.W.keepIn X.K (.ref f) = true) (hb : KBinds X.K fd ps ks g gV) (hx : Passes CX X E)
    (hkw : PK X kws tk) (hall : (backToKw pos (keywordEach kws X.env)).all (·.1.isSome) = true := by rfl) (hks : (backToKw pos (keywordEach kws X.env)).filterMap (·.1) = ks := by rfl)
    (hdb : (x == ("__debug__" : Str)) = false := by decide)
    (hpl : ((backTo pos (starEach [] X.env)).any (·.1) || (backToKw pos (keywordEach kws X.env)).any (·.1.isNone)) = false := by rfl) :
    PE X (.Call (.Name x p) [] kws pos) (tCallK0 sp gV E tk) := by
  refine ⟨fun pins s σ H Q I h => ?_⟩
  refine wpAny_Call_Name_kw (ld_glob I hg hm ?_ hdb)
  refine PySem.W.callWith_KW0 (h₀ := X.base) I.ok.mod.kin hk hall (thn (hkw.run pos pins s σ H _ I h) fun ws s2 ⟨zs, H2, I2, rz, q2⟩ => ⟨I2.kIn, ?_⟩) hpl
  rw [hks]
  exact run_fnk (us := []) (vs := []) F hr hb hx I2 .nil rz q2
end
end

/-- all parameters by keyword, in their order -/
def kAll {α : Type} : List α → List α → List α
  | [], zs => zs
  | _ :: _, _ => []
theorem kbinds_all {K : PySem.W.Frag} {fd : FuncData} {ps ks : List Str} (h0 : 0 < ps.length) (h : ∀ (s : Shared) (ws : List Value), K.In s.heap → ws.length = ps.length → BindsTo s fd ⟨[], ks.zip ws⟩ (ps.zip ws)) : KBinds K fd ps ks kAll kAll where
  to := fun s us ws hK hl => by
    cases us with
    | nil => exact h s ws hK hl
    | cons u r =>
      have z : (0 : Nat) = ps.length := hl
      omega
  rel := fun {vs us zs ws} r rz => by
    cases r with
    | nil => exact rz
    | cons _ _ => exact .nil

/-! ### places -/
theorem at0 {α : Type} {x : α} {xs : List α} : atI (x :: xs) 0 = some x := atI_nat (j := 0) rfl
theorem ix_nat {n j : Nat} (h : j < n) : ixN n (j : Int) = some j := by
  unfold ixN
  rw [if_pos (by omega), if_pos (by omega), Int.toNat_natCast]
theorem ix0 {n : Nat} (h : 0 < n) : ixN n 0 = some 0 := ix_nat h

/-! ### walks over a text -/
theorem lc_str {x : Str} {g : TG} {tt : TT} {te : TE} {vs : List Nat} {σ : L2.St} {H1 : Hp} {D : Addr} {Qd : Hp → Prop} (Pv : Nat → Hp → Prop) (h0 : Pv 0 (upd H1 D (.lst [])))
    (hs : ∀ i c H, x.cps.toList[i]? = some c → Pv i H → g (.str ⟨#[c]⟩) (wipe σ vs) H fun σ2 H2 => wipe σ2 vs = wipe σ vs ∧ tt σ2 H2 fun b H3 =>
      if b = true then te σ2 H3 fun y H4 => ∃ acc, H4 D = some (.lst acc) ∧ acc.length < sizeLine ∧ Pv (i + 1) (upd H4 D (.lst (acc ++ [y]))) else Pv (i + 1) H3) (hd : ∀ H, Pv x.cps.size H → Qd H) :
    ∃ W : Nat → Nat → Hp → Prop, (∃ m, W 0 m (upd H1 D (.lst []))) ∧ ∀ i m H, W i m H →
      ((Its x).stop i H ∧ Qd H) ∨ ((Its x).go i H ∧ ∃ Nx : Hp → Prop, (∀ H', Nx H' → ∃ m', m' < m ∧ W (i + 1) m' H') ∧ ∀ y H', (Its x).yld i H y H' → g y (wipe σ vs) H' fun σ2 H2 => wipe σ2 vs = wipe σ vs ∧ tt σ2 H2 fun b H3 =>
        if b = true then te σ2 H3 fun y H4 => ∃ acc, H4 D = some (.lst acc) ∧ acc.length < sizeLine ∧ Nx (upd H4 D (.lst (acc ++ [y]))) else Nx H3) := by
  refine ⟨fun i m H => m = x.cps.size - i ∧ i ≤ x.cps.size ∧ Pv i H, ⟨_, rfl, Nat.zero_le _, h0⟩, ?_⟩
  rintro i m H ⟨rfl, hi, p⟩
  by_cases hlt : i < x.cps.size
  · refine .inr ⟨hlt, Pv (i + 1), fun H' p' => ⟨x.cps.size - (i + 1), by omega, rfl, hlt, p'⟩, fun y H' q => ?_⟩
    obtain ⟨e, c, hc, ey⟩ := q
    subst e
    subst ey
    exact hs i c _ (by rw [Array.getElem?_toList]; exact hc) p
  · have e : i = x.cps.size := by omega
    subst e
    exact .inl ⟨Nat.le_refl _, hd H p⟩

/-! ### lists of ints, of texts as data -/
theorem dp_ints {K : PySem.W.Frag} {H : Hp} : ∀ ns : List Int, DpAll K H (ns.map V.int) (ns.map PyData.int)
  | [] => .nil
  | n :: r => .cons (.int n) (dp_ints r)
theorem dp_strs {K : PySem.W.Frag} {H : Hp} : ∀ ns : List Str, DpAll K H (ns.map V.str) (ns.map PyData.str)
  | [] => .nil
  | n :: r => .cons (.str n) (dp_strs r)
theorem shaped_ints (ns : List Int) : SeqAt.shaped (.list (ns.map PyData.int)) = true := PySem.W.ke_shaped_ints ns
theorem eqv_nil : PyData.eqv (.list []) (.list []) = true := by simp [PyData.eqv, PyData.eqvAll]
theorem eqv_cons {a : PyData} {r : List PyData} : PyData.eqv (.list (a :: r)) (.list []) = false := by simp [PyData.eqv, PyData.eqvAll]
theorem same_upd {H : Hp} {p : Addr} {o : HO} (h : H p = none) : Same H (upd H p o) := fun b x e => by
  rw [upd_ne (ne_of_none e h)]
  exact e
/-- what G doesn't know may change -/
theorem same_mut {G H : Hp} {p : Addr} {o : HO} (e : Same G H) (h : G p = none) : Same G (upd H p o) := fun b x q => by
  rw [upd_ne (ne_of_none q h)]
  exact e b x q
end My

/-! My own rules about instances of own classes: texts of them, making them by names and in a try, operators; errors with a dict in an except suite. -/
namespace My
open PySem PySem.Spec PyProof.Rows L2

section
variable {X : Cx}
/-! ### floor division by any divisor that is not 0 -/
def CDivZ (_ j : Int) : Prop := j ≠ 0 ∧ j.natAbs.log2 < 9000
theorem op_fdivZ : OpR X (binaryOp .FloorDiv) (rI CDivZ fun i j => .int (i.fdiv j)) := opI fun _ _ _ _ _ _ _ hc q => floordiv_int hc.1 q (.inl (PyProof.noPylong_of_log2 hc.2))
theorem cdivZ {i j : Int} (h : j ≠ 0) (hb : j.natAbs < 2 ^ 8000) : CDivZ i j := ⟨h, Nat.lt_of_lt_of_le (PySem.Flt.log2_lt_of (by decide) hb) (by decide)⟩

/-! ### str(o), o of an own class with __str__ -/
def rStrO (C : Addr) (sp : Sp) : List V → Hp → VK → Prop := fun xs H Q => ∃ a dx fs, xs = [.ref a] ∧ H a = some (.ins C dx fs) ∧ sp [.ref a] H (fun v H' => ∃ z, v = .str z ∧ Q (.str z) H') E0
theorem call_strO {CX : CXT} {k : Nat} {C f : Addr} {fd : FuncData} {ps : List Str} {sp : Sp} (hs : PySem.W.findIn X.K (.ref C) "__str__" = some (some (.ref f))) (hf : PySem.W.isFn X.K (.ref f) = true)
    (F : FnOk X.prog X.w X.K X.mg X.base CX k f fd ps sp) (hr : Room (k + 2) X.A) (hb : Binds X.K fd ps []) (hx : Passes CX X.nox E0) : CallR X (.type "str") (rStrO C sp) := by
  intro pins s σ H xs us Q I r h
  obtain ⟨a, dx, fs, rfl, ea, q⟩ := h
  obtain ⟨u, rfl, ru⟩ := vals1 r
  obtain rfl : u = Value.ref a := ru
  obtain ⟨mA, O, _, _, _, _⟩ := ins_get I.hok ea
  obtain ⟨od, J, _⟩ := O.look
  have hl : ([Value.ref a] ++ []).length = ps.length := by rw [← F.len _ _ _ _ q]; rfl
  refine PySem.W.kso_call hr.in1.in1.units0 I.kIn J hs hf (wpAny_call ?_)
  refine codeAny_mono (F.run X.A.in1.in1 X.stack s H ⟨[.ref a], []⟩ [.ref a] [.ref a] _ E0 hr.in1.in1 I.env0.in1.in1 (hb _ [.ref a] I.kIn hl) (.cons rfl .nil) q) fun r s' hq => ?_
  cases r with
  | error er => exact False.elim (hx pins σ H s er s' (I.wish _) hq)
  | ok fl =>
    cases fl with
    | ret u =>
      obtain ⟨v, H', I3, rv, z, ez, q3⟩ := I.after hq
      subst ez
      obtain ⟨t, rfl⟩ := rv
      exact ⟨.str z, H', I3, ⟨t, rfl⟩, q3⟩
    | next => exact False.elim hq
    | brk => exact False.elim hq
    | cont => exact False.elim hq

/-! ### C(k = v, ..), nothing by place -/
section
variable {CX : CXT} {k : Nat} {f C : Addr} {fd : FuncData} {ps ks : List Str} {sp : Sp} {E : XK} {x : Str} {p pos : Pos} {e : Expr} {es : List Expr} {kws : List Keyword} {t tk : TA} {g : List Value → List Value → List Value} {gV : List V → List V → List V}
theorem pe_makeK0 (M : Mk X.K C f) (F : FnOk X.prog X.w X.K X.mg X.base CX k f fd ps sp) (hr : Room (k + 1) X.A) (hg : Gl X x) (hm : X.mg x = some (.ref C)) (hb : KBn X.K fd ps (0 + 1) ks g gV) (hx : Passes CX X E)
    (hkw : PK X kws tk) (hall : (backToKw pos (keywordEach kws X.env)).all (·.1.isSome) = true := by rfl) (hks : (backToKw pos (keywordEach kws X.env)).filterMap (·.1) = ks := by rfl)
    (hdb : (x == ("__debug__" : Str)) = false := by decide)
    (hpl : ((backTo pos (starEach [] X.env)).any (·.1) || (backToKw pos (keywordEach kws X.env)).any (·.1.isNone)) = false := by rfl) :
    PE X (.Call (.Name x p) [] kws pos) (tMakeN C 0 ks.length sp gV E tNil tk) := by
  refine ⟨fun pins s σ H Q I h => ?_⟩
  refine wpAny_Call_Name_kw (ld_glob I hg hm ?_ hdb)
  refine PySem.W.callWith_KW0 (h₀ := X.base) I.ok.mod.kin M.kp hall (thn (hkw.run pos pins s σ H _ I h) fun ws s2 ⟨zs, H2, I2, rz, l1, l2, q2⟩ => ⟨I2.kIn, ?_⟩) hpl
  rw [hks]
  exact run_makeN M F hr hb hx I2 .nil rz rfl l2 q2

/-! ### cls(e, ..), the class under a name of the frame -/
def tMakeL (C : Addr) (i : Nat) (sp : Sp) (dvs : List V) (E : XK) (t : TA) : TE := fun σ H Q => σ[i]? = some (some (.ref C)) ∧ tMake C sp dvs E t σ H Q
theorem pe_makeL {i : Nat} {dvs : List V} {ds : List Value} (M : Mk X.K C f) (F : FnOk X.prog X.w X.K X.mg X.base CX k f fd ps sp) (hr : Room (k + 1) X.A) (hN : X.N[i]? = some x) (hv : Vis X.env.scope x) (hb : Binds X.K fd ps ds) (hd : Vals dvs ds) (hx : Passes CX X E)
    (ha : PA X (e :: es) t) (hd1 : (x == ("__debug__" : Str)) = false := by decide) (hcd : (x == ("__classdict__" : Str)) = false := by decide)
    (he : starEach (e :: es) X.env = (false, eval e X.env) :: starEach es X.env := by rfl) (hpl : (backTo pos (starEach es X.env)).any (·.1) = false := by rfl) :
    PE X (.Call (.Name x p) (e :: es) [] pos) (tMakeL C i sp dvs E t) := by
  refine ⟨fun pins s σ H Q I h => ?_⟩
  obtain ⟨hs, h⟩ := h
  refine wpAny_Call_Name_kw (thn ((pe_var (pos := p) hN hv hd1 hcd).run pins s σ H (fun v H1 => v = .ref C ∧ H1 = H) I ⟨.ref C, hs, rfl, rfl⟩) fun u s1 ⟨v, H1, I1, r1, q1⟩ => ?_)
  obtain ⟨rfl, rfl⟩ := q1
  cases r1
  refine PySem.W.callWith_K (h₀ := X.base) I.ok.mod.kin M.kp (thn (ha.run pos pins s1 σ _ _ I1 h) fun us s2 ⟨vs, H2, I2, r, q⟩ => ⟨I2.kIn, ?_⟩) he hpl
  exact run_make M F hr hb hd hx I2 r q

/-! ### C(e, ..) where what is raised is wished for at the caller's slots -/
def tMakeS (C : Addr) (sp : Sp) (dvs : List V) (E : L2.St → XK) (t : TA) : TE := fun σ H Q => tMake C sp dvs (E σ) t σ H Q
theorem run_makeS {pins : List (Addr × Obj)} {σ : L2.St} {H : Hp} {s : Shared} {Q : VK} {us : List Value} {vs : List V} {dvs : List V} {ds : List Value} (M : Mk X.K C f) (F : FnOk X.prog X.w X.K X.mg X.base CX k f fd ps sp) (hr : Room (k + 1) X.A) (hb : Binds X.K fd ps ds) (hd : Vals dvs ds)
    (hx : PassesAt CX X σ E) (I : Inv X pins σ H s) (r : Vals vs us)
    (h : ∀ x dx, H x = none → H dx = none → dx ≠ x → sp (.ref x :: (vs ++ dvs)) (upd (upd H dx (.own x)) x (.ins C dx [])) (fun v H2 => v = .non ∧ Q (.ref x) H2) E) :
    wpAny (model X.prog X.w) X.A (call (.ref C) us) (EP X pins σ Q) X.xe s := by
  have hq := h (s.heap.objs.size + 1) s.heap.objs.size (I.hok.fresh (Nat.le_succ _)) (I.hok.fresh (Nat.le_refl _)) (Nat.ne_of_lt (Nat.lt_succ_self _))
  have I2 := Inv.made (C := C) I
  have r2 : Vals (V.ref (s.heap.objs.size + 1) :: (vs ++ dvs)) (Value.ref (s.heap.objs.size + 1) :: (us ++ ds)) := .cons rfl (r.append hd)
  have hl : (Value.ref (s.heap.objs.size + 1) :: us ++ ds).length = ps.length := by
    have e := r2.length
    rw [F.len _ _ _ _ hq] at e
    exact e.symm
  refine wpAny_call (make_map (f := f) I.kIn M.makes M.init (beq_iff_eq.mp M.fn) (codeAny_mono (F.run _ X.stack _ _ ⟨Value.ref (s.heap.objs.size + 1) :: us, []⟩ (Value.ref (s.heap.objs.size + 1) :: (us ++ ds)) _ _ E (hr.make C us [])
    (I2.env0.make C us []) (hb _ (Value.ref (s.heap.objs.size + 1) :: us) I2.kIn hl) r2 hq) fun r s' hq' => ?_))
  cases r with
  | error e => exact hx pins _ _ e s' I2 hq'
  | ok fl =>
    cases fl with
    | ret u =>
      obtain ⟨v, H', I3, rv, ev, q3⟩ := I2.after hq'
      subst ev
      exact ⟨rv, ⟨V.ref (s.heap.objs.size + 1), H', I3, rfl, q3⟩⟩
    | next => exact False.elim hq'
    | brk => exact False.elim hq'
    | cont => exact False.elim hq'
theorem pe_makeS {E : L2.St → XK} {dvs : List V} {ds : List Value} (M : Mk X.K C f) (F : FnOk X.prog X.w X.K X.mg X.base CX k f fd ps sp) (hr : Room (k + 1) X.A) (hg : Gl X x) (hm : X.mg x = some (.ref C)) (hb : Binds X.K fd ps ds) (hd : Vals dvs ds) (hx : ∀ σ, PassesAt CX X σ (E σ))
    (ha : PA X (e :: es) t) (hdb : (x == ("__debug__" : Str)) = false := by decide) (he : starEach (e :: es) X.env = (false, eval e X.env) :: starEach es X.env := by rfl) (hpl : (backTo pos (starEach es X.env)).any (·.1) = false := by rfl) :
    PE X (.Call (.Name x p) (e :: es) [] pos) (tMakeS C sp dvs E t) := by
  refine ⟨fun pins s σ H Q I h => ?_⟩
  refine wpAny_Call_Name_kw (ld_glob I hg hm ?_ hdb)
  refine PySem.W.callWith_K (h₀ := X.base) I.ok.mod.kin M.kp (thn (ha.run pos pins s σ H _ I h) fun us s1 ⟨vs, H1, I1, r, q⟩ => ⟨I1.kIn, ?_⟩) he hpl
  exact run_makeS M F hr hb hd (hx σ) I1 r q
end

/-! ### C.m(k = v, ..), m a classmethod -/
section
variable {CX : CXT} {k : Nat} {C q0 g : Addr} {mc : Value} {fd : FuncData} {ps ks : List Str} {sp : Sp} {E : XK} {o : Expr} {m : Str} {pos apos : Pos} {kws : List Keyword} {ta : TE} {tk : TA} {pl : Sem Bool}
def tCMethK (C : Addr) (n : Nat) (sp : Sp) (E : XK) (ta : TE) (tk : TA) : TE := fun σ H Q => ta σ H fun x H1 => x = .ref C ∧ tk σ H1 fun zs H2 => zs.length = n ∧ sp (.ref C :: zs) H2 Q E
theorem pe_cmethK0 (he : PE X o ta) (r : ClX.CRead X.K C mc) (c : ClX.CMet X.K C mc m q0 g) (F : FnOk X.prog X.w X.K X.mg X.base CX k g fd ps sp) (hr : Room k X.A) (hx : Passes CX X E) (hkw : PK X kws tk)
    (hb : ∀ (s : Shared) (ws : List Value), X.K.In s.heap → ws.length = ks.length → BindsTo s fd ⟨Value.ref C :: [], ks.zip ws⟩ (ps.zip (Value.ref C :: ws)))
    (hall : (backToKw pos (keywordEach kws X.env)).all (·.1.isSome) = true := by rfl) (hks : (backToKw pos (keywordEach kws X.env)).filterMap (·.1) = ks := by rfl)
    (hpl : ((backTo pos (starEach [] X.env)).any (·.1) || (backToKw pos (keywordEach kws X.env)).any (·.1.isNone)) = false := by rfl)
    (ht : eval (.Call (.Attribute o m apos) [] kws pos) X.env = (do
      let ov ← eval o X.env
      standAt apos.atName
      let (f, first) ← holding [ov] (getMethod ov m pl)
      callWith pos f first (backTo pos (starEach [] X.env)) (backToKw pos (keywordEach kws X.env))) := by rfl) :
    PE X (.Call (.Attribute o m apos) [] kws pos) (tCMethK C ks.length sp E ta tk) := by
  refine ⟨fun pins s σ H Q I h => ?_⟩
  refine PySem.W.methodCall_KW (pl := pl) (thn (he.run pins s σ H _ I h) fun u s1 ⟨x, H1, I1, rx, ex, h2⟩ => ?_) ht
  subst ex
  obtain rfl : u = Value.ref C := rx
  refine ClX.getmethcm_ok I1 r c fun s2 I2 => ?_
  refine PySem.W.callWith_of hpl (PySem.W.keeps_M (K := X.K) (self := Value.ref C) c.fi) (evalArgs_kw2_nil hall (thn (hkw.run pos _ s2 σ H1 _ I2 h2) fun ws s3 ⟨zs, H2, I3, rz, hl, h3⟩ => ⟨⟨ClX.pin_at I3, I3.kIn⟩, ?_⟩))
  rw [hks]
  suffices z : wpAny (model X.prog X.w) X.A (call (.ref s1.heap.objs.size) [] (ks.zip ws)) (EP X ((s1.heap.objs.size, PySem.W.methodObj (.ref g) (.ref C)) :: pins) σ Q) X.xe s3 from thn z fun _ _ y => ClX.unpinE y
  refine wpAny_call (PySem.W.method_call (ClX.pin_at I3) ?_)
  have r2 : Vals (V.ref C :: zs) (Value.ref C :: ws) := .cons rfl rz
  refine codeAny_mono (F.run X.A X.stack s3 H2 ⟨Value.ref C :: [], ks.zip ws⟩ (Value.ref C :: ws) (V.ref C :: zs) Q E hr I3.env0 (hb s3 ws I3.kIn (rz.length.symm.trans hl)) r2 h3) fun r s' hq => ?_
  cases r with
  | error er => exact hx _ σ H2 s3 er s' I3 hq
  | ok fl =>
    cases fl with
    | ret u => exact I3.after hq
    | next => exact False.elim hq
    | brk => exact False.elim hq
    | cont => exact False.elim hq
end

/-! ### an error with a dict of its own, asked for its class in an except suite -/
theorem class_of_err {prog : Program} {w : World} {A : Around} {E : Value → Shared → Prop} {s : Shared} {K : PySem.W.Frag} {x D : Addr} {ox od : Obj} {Q : Option Value → Shared → Prop} (C : ExcC K D) (hK : K.In s.heap) (J : PySem.W.InstAt s.heap x ox D (some od))
    (h : Q (some (.ref D)) { s with toks := s.toks + 1 }) : wpAny (model prog w) A (getAttr? (.ref x) "__class__") Q E s := by
  have hcd : (PySem.W.clsIn K D).isSome = true := by
    obtain ⟨cd, hc, _⟩ := PySem.W.any_some C.hd
    rw [hc]
    rfl
  have hf : PySem.W.findObj K D (some od) "__class__" = some (.bind (.builtin "getset_descriptor.__get__") (.builtin "object.__class__")) := PySem.W.findObj_data hcd C.ha C.hn C.ht
  obtain ⟨hp, gg, dr, tt, os⟩ := s
  have T0 := J.type (M := model prog w)
  have T1 := PySem.W.looks_findIn (M := model prog w) hK C.hg
  have T2 := PySem.W.looks_findIn (M := model prog w) hK C.hk
  have T3 := PySem.W.looks_find (M := model prog w) hK J hf
  have below : PySem.W.Looks (model prog w) hp (isInstance (.ref x) (.type "BaseException")) true := T0.andThen (PySem.W.looks_subIn hK C.hs)
  have b0 : (false && onTheHeap (Value.builtin "BaseException.__getattribute__")) = false := rfl
  have b2 : (Value.builtin "BaseException.__getattribute__" == Value.builtin "object.__getattribute__") = false := by decide +kernel
  have b1 : (onTheHeap (Value.ref D) && Value.builtin "BaseException.__getattribute__" == Value.builtin "object.__getattribute__") = false := by rw [b2]; rfl
  unfold getAttr? getAttrBy? getAttrBy
  refine wpAny_bind (wpAny_mkText (wpAny_bind (wpAny_attempt (wpAny_holding (wpAny_bind (T0.at (wpAny_bind (T1.at ?_))))))))
  show wpAny _ _ (if (onTheHeap (Value.ref D) && Value.builtin "BaseException.__getattribute__" == Value.builtin "object.__getattribute__") = true then _ else _) _ _ _
  rw [b1, if_neg Bool.false_ne_true]
  unfold getAttrByItsOwn hookBefore
  refine wpAny_bind ?_
  rw [if_pos (show onTheHeap (Value.ref D) = true from rfl)]
  refine T2.at ?_
  refine wpAny_bind (wpAny_attempt (wpAny_holding ?_))
  unfold callGetattribute
  rw [b0, if_neg Bool.false_ne_true]
  unfold boundAndCalled
  rw [PySem.F.excAttr_ValueError.ga.bind (.ref x)]
  refine wpAny_bind (wpAny_pure ?_)
  show wpAny _ _ (call (.builtin "BaseException.__getattribute__") [.ref x, .str "__class__" tt]) _ _ _
  refine wpAny_call (codeAny_call_builtin PySem.F.excAttr_ValueError.ga.plain PySem.F.entry_bexc_ga ?_)
  refine @PySem.W.check_slot (model prog w) _ _ ⟨hp, gg, dr, tt + 1, os⟩ "BaseException.__getattribute__" "BaseException" "__getattribute__" (.ref x) [.str "__class__" tt] [] _ (by decide +kernel) (by decide +kernel) below (PySem.F.args_bexc_ga (.ref x) (.str "__class__" tt)) ?_
  unfold Builtin.«object.__getattribute__»
  refine wpAny_bind (wpAny_of_eq (a := ((Value.ref x : Value), [Value.str "__class__" tt])) (by first | rfl | (simp only [slotArgs]; rfl)) ?_)
  refine wpAny_bind (wpAny_pure (wpAny_bind (T0.at (wpAny_bind (T3.at ?_)))))
  show wpAny _ _ (holding [Value.builtin "object.__class__"] (call (.builtin "getset_descriptor.__get__") [.builtin "object.__class__", .ref x, .ref D]) >>= ret) _ _ _
  refine wpAny_bind (wpAny_holding (wpAny_call (PySem.W.class_get (s := ⟨hp, gg, dr, tt + 1, os⟩) (ox := ox) (od := some od) hK J C.hm ?_)))
  refine wpAny_pure ?_
  show wpAny _ _ (handedOut (.ref D)) _ _ _
  rw [PySem.W.handedOut_of (v := .ref D) rfl]
  first
    | exact wpAny_pure (wpAny_pure h)
    | exact wpAny_pure h
    | exact wpAny_pure (wpAny_bind (wpAny_pure (wpAny_pure h)))
theorem kit_err {K : PySem.W.Frag} {x D : Addr} {ox od : Obj} (C : ExcC K D) : PySem.W.KitX K (.ref x) (.ref D) (fun h => PySem.W.InstAt h x ox D (some od)) where
  ty := fun _ _ _ J => J.type
  it := fun _ _ hK _ => by
    obtain ⟨cdD, hcD, _⟩ := PySem.W.any_some C.hd
    unfold PySem.W.clsIn at hcD
    split at hcD
    · rename_i c' d' cd' sl' ho
      intro A' Q' E' s' kk q
      unfold isType loadHead
      exact wpAny_bind (wpAny_loadPart (kk _ _ (hK _ _ ho)) (wpAny_pure q))
    · cases hcD
  ne := fun h tp dd its n sl hK htp => by
    obtain ⟨cdD, hcD, _⟩ := PySem.W.any_some C.hd
    refine Bool.eq_false_iff.mpr fun q => ?_
    have e : D = tp := Value.ref.inj (beq_iff_eq.mp q)
    subst e
    unfold PySem.W.clsIn at hcD
    split at hcD
    · rename_i c' d' cd' sl' ho
      have z := (hK _ _ ho).symm.trans htp
      cases z
    · cases hcD
  ca := fun hK J q => class_of_err C hK J q
def rIsEd (K : PySem.W.Frag) (a : Addr) (cls : Value) (d : Option Addr) (D : Addr) : List V → Hp → VK → Prop := fun xs H Q => ∃ (c : V) (cv : Value) (b : Bool) (dd : Addr) (fs : List (Str × V)), xs = [.ref a, c] ∧ cls = .ref D ∧ d = some dd ∧ ClsV c cv ∧ PySem.W.kitOne K (.ref D) cv = some b ∧ H dd = some (.xd fs) ∧ Q (.bl b) H
theorem call_isEd {a D : Addr} {cls : Value} {d : Option Addr} {oe : Obj} {pn : List (Addr × Obj)} (C : ExcC X.K D) (hz : Zc cls d oe) (hf : ∃ vs, oe.data = .fields vs) : CallR (X.suite a ((a, oe) :: pn)) (.builtin "isinstance") (rIsEd X.K a cls d D) := by
  intro pins s σ H xs us Q I r h
  obtain ⟨c, cv, b, dd, fs, rfl, e1, e2, hcv, e, hd, q⟩ := h
  subst e1
  subst e2
  obtain ⟨u, w', rfl, ru, rw'⟩ := vals2 r
  obtain rfl : u = Value.ref a := ru
  obtain rfl := hcv.eq rw'
  obtain ⟨hget, _⟩ := I.pin (a, oe) (List.mem_append.mpr (.inl List.mem_cons_self))
  obtain ⟨vs, hv⟩ := hf
  have hx : ObjOk X.prog X.w H s.heap dd (.xd fs) := I.hok dd _ hd
  obtain ⟨mA, hns, hrel⟩ := hx
  obtain ⟨od, ho, hl⟩ := lookIn_ns hns
  have J : PySem.W.InstAt s.heap a oe D (some od) := ⟨hget, hz.1, by unfold PySem.W.notCls; rw [hv] <;> rfl, by rw [hz.2]; exact ho⟩
  exact PySem.W.kia_one (kit_err C) I.kIn J e (fun z => nomatch z) fun tk => ⟨.bl b, H, I.kept (t' := tk) fun _ _ z => z, rfl, q⟩
end

/-! ### isinstance by the written part; keywords in another order -/
theorem kit_self {K : PySem.W.Frag} {C : Addr} : PySem.W.kitOne K (.ref C) (.ref C) = some true := by
  unfold PySem.W.kitOne
  rw [if_pos (by simp)]
theorem kit_sub {K : PySem.W.Frag} {t : Value} {C : Addr} {b : Bool} (ic : PySem.W.isClsIn K C = true) (ty : PySem.W.typeIn K (.ref C) = some (.type "type")) (su : PySem.W.subIn K t (.ref C) = some b) (ne : t ≠ .ref C) : PySem.W.kitOne K t (.ref C) = some b := by
  unfold PySem.W.kitOne
  rw [if_neg (by simpa using ne)]
  show (if ((PySem.W.clsIn K C).isSome && PySem.W.typeIn K (.ref C) == some (.type "type")) = true then PySem.W.subIn K t (.ref C) else none) = some b
  rw [ty, show (PySem.W.clsIn K C).isSome = true from ic, if_pos (by simp)]
  exact su
theorem kit_not {K : PySem.W.Frag} {t : Value} {C : Addr} (ic : PySem.W.isClsIn K C = true) (ty : PySem.W.typeIn K (.ref C) = some (.type "type")) (su : PySem.W.subIn K t (.ref C) = some false) (ne : t ≠ .ref C) : PySem.W.kitOne K t (.ref C) = some false := kit_sub ic ty su ne
def permL {α : Type} (is : List Nat) (ws : List α) : List α := is.filterMap fun i => ws[i]?
theorem permL_rel (is : List Nat) {zs : List V} {ws : List Value} (r : Vals zs ws) : Vals (permL is zs) (permL is ws) := by
  induction is with
  | nil => exact .nil
  | cons i is ih =>
    unfold permL at ih ⊢
    rw [List.filterMap_cons, List.filterMap_cons]
    cases e : zs[i]? with
    | none =>
      rw [r.none_of e]
      exact ih
    | some x =>
      obtain ⟨u, hu, ru⟩ := r.get e
      rw [hu]
      exact .cons ru ih
end My

/-! My own rules about operators of own classes: + - * with an instance or an int on either side, in place, unary minus, == with either answer, != of two lists with the same items. -/
namespace My
open PySem PySem.Spec PyProof.Rows L2

section
variable {X : Cx} {CX : CXT} {k : Nat} {C f : Addr} {fd : FuncData} {ps : List Str} {sp : Sp} {E : XK}
theorem run_own {pins : List (Addr × Obj)} {s : Shared} {σ : L2.St} {H : Hp} {Q : VK} {us : List Value} {vs : List V} (F : FnOk X.prog X.w X.K X.mg X.base CX k f fd ps sp) (hr : Room k X.A) (hb : Binds X.K fd ps []) (hx : Passes CX X E)
    (I : Inv X pins σ H s) (r : Vals vs us) (h : sp vs H Q E) : wpAny (model X.prog X.w) X.A (call (.ref f) us) (EP X pins σ Q) X.xe s := by
  have hl : (us ++ []).length = ps.length := by
    rw [List.append_nil, ← F.len _ _ _ _ h]
    exact r.length.symm
  refine wpAny_call (codeAny_mono (F.run X.A X.stack s H ⟨us, []⟩ us vs _ E hr I.env0 (by
    have := hb s us I.kIn hl
    rw [List.append_nil] at this
    exact this) r h) fun r s' hq => ?_)
  cases r with
  | error e => exact hx pins σ H s e s' I hq
  | ok fl =>
    cases fl with
    | ret w => exact I.after hq
    | next => exact False.elim hq
    | brk => exact False.elim hq
    | cont => exact False.elim hq
/-- what is handed back is no NotImplemented -/
theorem back_of {pins : List (Addr × Obj)} {σ : L2.St} {Q : VK} {v : Value} {s : Shared} (h : EP X pins σ Q v s) : PySem.W.CmpBack (EP X pins σ Q) v s := by
  obtain ⟨x, H, I, r, q⟩ := id h
  cases x with
  | non => obtain rfl : v = Value.none := r; exact h
  | bl b => obtain rfl : v = Value.bool b := r; exact h
  | int i => obtain ⟨t, rfl⟩ := r; exact h
  | str i => obtain ⟨t, rfl⟩ := r; exact h
  | byt i => obtain ⟨t, rfl⟩ := r; exact h
  | flt i => obtain ⟨t, rfl⟩ := r; exact h
  | ref a => obtain rfl : v = Value.ref a := r; exact h
  | ty n => obtain rfl : v = Value.type n := r; exact h

/-! ### the unary minus -/
def rNegO (C : Addr) (sp : Sp) (E : XK) : V → Hp → VK → Prop := fun x H Q => ∃ a dx fs, x = .ref a ∧ H a = some (.ins C dx fs) ∧ sp [.ref a] H Q E
theorem un_negO (hs : PySem.W.findIn X.K (.ref C) "__neg__" = some (some (.ref f))) (hf : PySem.W.isFn X.K (.ref f) = true) (F : FnOk X.prog X.w X.K X.mg X.base CX k f fd ps sp) (hr : Room k X.A) (hb : Binds X.K fd ps []) (hx : Passes CX X E) :
    UnR X (unaryOp .USub) (rNegO C sp E) := by
  intro pins s σ H x v Q I rx h
  obtain ⟨a, dx, fs, rfl, ea, q⟩ := h
  obtain rfl : v = Value.ref a := rx
  obtain ⟨mA, J, _⟩ := ins_get I.hok ea
  obtain ⟨od, J, _⟩ := J.look
  obtain ⟨m, hF⟩ := I.fr
  exact PySem.W.ksp_neg hF I.ok.mod.kin J hs hf (run_own (vs := [V.ref a]) F hr hb hx I (.cons rfl .nil) q)

/-! ### the operators with two sides -/
/-- what of the text an operator must have -/
structure OpO (K : PySem.W.Frag) (C : Addr) (nm : String) (f g : Addr) : Prop where
  sf : PySem.W.selfFirst K C = true
  ls : PySem.W.findIn K (.ref C) (PySem.dunder nm) = some (some (.ref f))
  lf : PySem.W.isFn K (.ref f) = true
  rs : PySem.W.findIn K (.ref C) (dunderR nm) = some (some (.ref g))
  rf : PySem.W.isFn K (.ref g) = true
  i1 : ∃ fo, PySem.W.findIn K (.type "int") (PySem.dunder nm) = some fo
  i2 : ∃ ro, PySem.W.findIn K (.type "int") (dunderR nm) = some ro
  su : PySem.W.subIn K (.type "int") (.ref C) = some false
  us : PySem.W.subIn K (.ref C) (.type "int") = some false
/-- int declines -/
structure Dec (nm : String) (id : String) (B : Builtin) : Prop where
  slot : Slot "int" (PySem.dunder nm) id
  entry : entryFor table id = some B
  args : ∀ a b, argsOk id ⟨[a, b], []⟩
  fills : fillsNumberSlot (.type "int") nm = pure true
  body : ∀ (a : Int) (t : Tok) (l C dx : Addr), Meets (B ⟨[.int a t, .ref l], []⟩) (fun _ R s => s.heap.get? l = some (PySem.W.instObj C dx) ∧ R (.ok (.ret Value.notImplemented)) s)
theorem dec_add : Dec "add" "int.__add__" Builtin.«int.__add__» := ⟨F.slot_int_add, F.entry_int_add, F.args_int_add_2, F.fills_int_add, fun a t l C dx => .of_wp fun prog w A R s h => by obtain ⟨hp, g, d, tk, os⟩ := s; obtain ⟨hl, h⟩ := h; wp_walk; exact ⟨_, rfl, h⟩⟩
theorem dec_sub : Dec "sub" "int.__sub__" Builtin.«int.__sub__» := ⟨F.slot_int_sub, F.entry_int_sub, F.args_int_sub_2, F.fills_int_sub, fun a t l C dx => .of_wp fun prog w A R s h => by obtain ⟨hp, g, d, tk, os⟩ := s; obtain ⟨hl, h⟩ := h; wp_walk; exact ⟨_, rfl, h⟩⟩
theorem dec_mul : Dec "mul" "int.__mul__" Builtin.«int.__mul__» := ⟨F.slot_int_mul, F.entry_int_mul, F.args_int_mul_2, F.fills_int_mul, fun a t l C dx => .of_wp fun prog w A R s h => by obtain ⟨hp, g, d, tk, os⟩ := s; obtain ⟨hl, h⟩ := h; wp_walk; exact ⟨_, rfl, h⟩⟩

section
variable {prog : Program} {w : World} {A : Around} {Ex : Value → Shared → Prop} {s : Shared} {K : PySem.W.Frag} {C f g : Addr} {nm : String}
open PySem.W
theorem b1_own {x y : Addr} {odx ody : Option Obj} {ox oy : Obj} {Q : Value → Shared → Prop} (X : K.In s.heap) (O : OpO K C nm f g) (I : InstAt s.heap x ox C odx) (J : InstAt s.heap y oy C ody)
    (h : wpAny (model prog w) A (call (.ref f) [.ref x, .ref y]) (PySem.W.CmpBack Q) Ex s) : wpAny (model prog w) A (binaryOp1 nm (.ref x) (.ref y)) (fun r s' => ∃ v, r = some v ∧ Q v s') Ex s := by
  obtain ⟨cd, rest, hcd, hm⟩ := ksp_first O.sf
  unfold binaryOp1
  refine wpAny_bind (I.type.here (wpAny_bind (J.type.here (wpAny_bind ((fills_K X hcd hm O.ls).here ?_)))))
  simp only [beq_self_eq_true, if_true]
  refine wpAny_bind (wpAny_pure ?_)
  simp only [Bool.and_false, Bool.false_eq_true, if_false, Bool.false_and]
  refine wpAny_bind (wpAny_pure ?_)
  simp only [Bool.false_eq_true, if_false]
  refine wpAny_bind (m := tryMethod (.ref x) _ (.ref y)) (wpAny_mono (ksp_try X I O.ls O.lf h) (fun r s' hr => ?_) fun _ _ e => e)
  obtain ⟨v, rfl, hq⟩ := hr
  exact wpAny_pure ⟨v, rfl, hq⟩
theorem b1_int {x : Addr} {i : Int} {t : Tok} {odx : Option Obj} {ox : Obj} {Q : Value → Shared → Prop} (X : K.In s.heap) (O : OpO K C nm f g) (I : InstAt s.heap x ox C odx)
    (h : wpAny (model prog w) A (call (.ref f) [.ref x, .int i t]) (PySem.W.CmpBack Q) Ex s) : wpAny (model prog w) A (binaryOp1 nm (.ref x) (.int i t)) (fun r s' => ∃ v, r = some v ∧ Q v s') Ex s := by
  obtain ⟨cd, rest, hcd, hm⟩ := ksp_first O.sf
  obtain ⟨fo, h1⟩ := O.i1
  obtain ⟨ro, h2⟩ := O.i2
  have one := ksp_try X I O.ls O.lf h
  obtain ⟨hh, gg, d, tt, os⟩ := s
  have L1 : Looks (model prog w) hh (typeOf (.ref x)) (.ref C) := I.type
  have L2 : Looks (model prog w) hh (typeOf (.int i t)) (.type "int") := Looks.of_pure rfl
  have L3 : Looks (model prog w) hh (fillsNumberSlot (.ref C) nm) true := fills_K X hcd hm O.ls
  have L4 : Looks (model prog w) hh (fillsNumberSlot (.type "int") nm) ((fo.isSome && !isSeqSlot fo) || (ro.isSome && !isSeqSlot ro)) := ksp_fillsT X h1 h2
  have L5 : Looks (model prog w) hh (isSubtype (.type "int") (.ref C)) false := looks_subIn X O.su
  have L6 : Looks (model prog w) hh (numberSlotInPython (.ref C) nm) true := ksp_inPy X O.ls O.rs (.inr ⟨_, rfl⟩)
  have L7 : Looks (model prog w) hh (numberSlotInPython (.type "int") nm) false := Looks.of_pure rfl
  have L8 : Looks (model prog w) hh (typeLookup (.type "int") (dunderR nm)) ro := looks_findIn X h2
  generalize ((fo.isSome && !isSeqSlot fo) || (ro.isSome && !isSeqSlot ro)) = right at L4
  have hne : (Value.ref C == Value.type "int") = false := Bool.eq_false_iff.mpr fun q => by cases beq_iff_eq.mp q
  unfold binaryOp1
  refine wpAny_bind (L1.at (wpAny_bind (L2.at (wpAny_bind (L3.at ?_)))))
  simp only [hne, Bool.false_eq_true, if_false]
  cases right with
  | false =>
    ksp_lk
    refine wpAny_mono one (fun r s' hr' => ?_) fun _ _ e => e
    obtain ⟨v, rfl, hq⟩ := hr'
    ksp_lk
    exact ⟨v, rfl, hq⟩
  | true =>
    ksp_lk
    refine wpAny_mono one (fun r s' hr' => ?_) fun _ _ e => e
    obtain ⟨v, rfl, hq⟩ := hr'
    ksp_lk
    exact ⟨v, rfl, hq⟩
theorem b1_rint {x dx : Addr} {i : Int} {t : Tok} {odx : Option Obj} {id : String} {B : Builtin} {Q : Value → Shared → Prop} (D : Dec nm id B) (X : K.In s.heap) (O : OpO K C nm f g) (I : InstAt s.heap x (instObj C dx) C odx)
    (h : wpAny (model prog w) A (call (.ref g) [.ref x, .int i t]) (PySem.W.CmpBack Q) Ex s) : wpAny (model prog w) A (binaryOp1 nm (.int i t) (.ref x)) (fun r s' => ∃ v, r = some v ∧ Q v s') Ex s := by
  obtain ⟨cd, rest, hcd, hm⟩ := ksp_first O.sf
  have one := ksp_try X I O.rs O.rf h
  have two : wpAny (model prog w) A (tryMethod (.int i t) (PySem.dunder nm) (.ref x)) (fun r s' => r = none ∧ s' = s) Ex s :=
    wpAny_tryMethod_declines (typeIs_int s i t) D.slot (call_meets D.slot (typeIs_int s i t) D.entry (D.args _ _) (D.body i t x C dx) ⟨I.at_, rfl, rfl, rfl⟩)
  have L1 : Looks (model prog w) s.heap (typeOf (.ref x)) (.ref C) := I.type
  have L3 : Looks (model prog w) s.heap (fillsNumberSlot (.ref C) nm) true := fills_K X hcd hm O.ls
  have L5 : Looks (model prog w) s.heap (isSubtype (.ref C) (.type "int")) false := looks_subIn X O.us
  have hne : (Value.type "int" == Value.ref C) = false := Bool.eq_false_iff.mpr fun q => by cases beq_iff_eq.mp q
  have hpy : numberSlotInPython (.type "int") nm = pure false := rfl
  unfold binaryOp1
  refine wpAny_bind (wpAny_typeOf (typeIs_int s i t) (wpAny_bind (L1.here (wpAny_bind (wpAny_of_eq D.fills ?_)))))
  simp only [hne, Bool.false_eq_true, if_false]
  refine wpAny_bind (L3.here ?_)
  simp only [Bool.and_self, if_true]
  refine wpAny_bind (L5.here ?_)
  simp only [Bool.false_eq_true, if_false, pure_bind, Bool.not_false, Bool.and_self, if_true, hpy]
  refine wpAny_bind (wpAny_mono two (fun r s' hr => ?_) fun _ _ e => e)
  obtain ⟨rfl, rfl⟩ := hr
  refine wpAny_bind (wpAny_mono one (fun r s' hr => ?_) fun _ _ e => e)
  obtain ⟨v, rfl, hq⟩ := hr
  ksp_lk
  exact ⟨v, rfl, hq⟩
end

/-! ### the operators as rules -/
section
variable {X : Cx} {CX CX' : CXT} {k k' : Nat} {C f g : Addr} {fd fd' : FuncData} {ps ps' : List Str} {sp sp' : Sp} {E : XK} {op : Operator}
theorem op_or {F : Value → Value → Sem Value} {r1 r2 : R2} (a : OpR X F r1) (b : OpR X F r2) : OpR X F (fun x y H Q => r1 x y H Q ∨ r2 x y H Q) := by
  intro pins s σ H x y v u Q I rx ry h
  rcases h with h | h
  · exact a pins s σ H x y v u Q I rx ry h
  · exact b pins s σ H x y v u Q I rx ry h
theorem un_or {F : Value → Sem Value} {r1 r2 : V → Hp → VK → Prop} (a : UnR X F r1) (b : UnR X F r2) : UnR X F (fun x H Q => r1 x H Q ∨ r2 x H Q) := by
  intro pins s σ H x v Q I rx h
  rcases h with h | h
  · exact a pins s σ H x v Q I rx h
  · exact b pins s σ H x v Q I rx h
def rOO (C : Addr) (sp : Sp) (E : XK) : R2 := fun x y H Q => ∃ a dx fs b dy gs, x = .ref a ∧ y = .ref b ∧ H a = some (.ins C dx fs) ∧ H b = some (.ins C dy gs) ∧ sp [.ref a, .ref b] H Q E
def rOI (C : Addr) (sp : Sp) (E : XK) : R2 := fun x y H Q => ∃ a dx fs i, x = .ref a ∧ y = .int i ∧ H a = some (.ins C dx fs) ∧ sp [.ref a, .int i] H Q E
def rIO (C : Addr) (sp : Sp) (E : XK) : R2 := fun x y H Q => ∃ b dy gs i, x = .int i ∧ y = .ref b ∧ H b = some (.ins C dy gs) ∧ sp [.ref b, .int i] H Q E
theorem b1_oo {nm : String} (O : OpO X.K C nm f g) (F : FnOk X.prog X.w X.K X.mg X.base CX k f fd ps sp) (hr : Room k X.A) (hb : Binds X.K fd ps []) (hx : Passes CX X E)
    {pins : List (Addr × Obj)} {s : Shared} {σ : L2.St} {H : Hp} {x y : V} {v u : Value} {Q : VK} (I : Inv X pins σ H s) (rx : RelV x v) (ry : RelV y u) (h : rOO C sp E x y H Q) :
    wpAny (model X.prog X.w) X.A (binaryOp1 nm v u) (fun r s' => ∃ z, r = some z ∧ EP X pins σ Q z s') X.xe s := by
  obtain ⟨a, dx, fs, b, dy, gs, rfl, rfl, ea, eb, q⟩ := h
  obtain rfl : v = Value.ref a := rx
  obtain rfl : u = Value.ref b := ry
  obtain ⟨mA, J, _⟩ := ins_get I.hok ea
  obtain ⟨od, J, _⟩ := J.look
  obtain ⟨mB, J', _⟩ := ins_get I.hok eb
  obtain ⟨od', J', _⟩ := J'.look
  exact b1_own I.kIn O J J' (wpAny_mono (run_own (vs := [V.ref a, V.ref b]) F hr hb hx I (.cons rfl (.cons rfl .nil)) q) (fun _ _ z => back_of z) fun _ _ e => e)
theorem b1_oi {nm : String} (O : OpO X.K C nm f g) (F : FnOk X.prog X.w X.K X.mg X.base CX k f fd ps sp) (hr : Room k X.A) (hb : Binds X.K fd ps []) (hx : Passes CX X E)
    {pins : List (Addr × Obj)} {s : Shared} {σ : L2.St} {H : Hp} {x y : V} {v u : Value} {Q : VK} (I : Inv X pins σ H s) (rx : RelV x v) (ry : RelV y u) (h : rOI C sp E x y H Q) :
    wpAny (model X.prog X.w) X.A (binaryOp1 nm v u) (fun r s' => ∃ z, r = some z ∧ EP X pins σ Q z s') X.xe s := by
  obtain ⟨a, dx, fs, i, rfl, rfl, ea, q⟩ := h
  obtain rfl : v = Value.ref a := rx
  obtain ⟨t, rfl⟩ := ry
  obtain ⟨mA, J, _⟩ := ins_get I.hok ea
  obtain ⟨od, J, _⟩ := J.look
  exact b1_int I.kIn O J (wpAny_mono (run_own (vs := [V.ref a, V.int i]) F hr hb hx I (.cons rfl (.cons ⟨t, rfl⟩ .nil)) q) (fun _ _ z => back_of z) fun _ _ e => e)
theorem b1_io {nm : String} {id : String} {B : Builtin} (D : Dec nm id B) (O : OpO X.K C nm f g) (F : FnOk X.prog X.w X.K X.mg X.base CX k g fd ps sp) (hr : Room k X.A) (hb : Binds X.K fd ps []) (hx : Passes CX X E)
    {pins : List (Addr × Obj)} {s : Shared} {σ : L2.St} {H : Hp} {x y : V} {v u : Value} {Q : VK} (I : Inv X pins σ H s) (rx : RelV x v) (ry : RelV y u) (h : rIO C sp E x y H Q) :
    wpAny (model X.prog X.w) X.A (binaryOp1 nm v u) (fun r s' => ∃ z, r = some z ∧ EP X pins σ Q z s') X.xe s := by
  obtain ⟨b, dx, fs, i, rfl, rfl, ea, q⟩ := h
  obtain rfl : u = Value.ref b := ry
  obtain ⟨t, rfl⟩ := rx
  obtain ⟨mA, J, _⟩ := ins_get I.hok ea
  obtain ⟨od, J, _⟩ := J.look
  exact b1_rint D I.kIn O J (wpAny_mono (run_own (vs := [V.ref b, V.int i]) F hr hb hx I (.cons rfl (.cons ⟨t, rfl⟩ .nil)) q) (fun _ _ z => back_of z) fun _ _ e => e)
theorem bin_of {M : Model} {A : Around} {Ex : Value → Shared → Prop} {s : Shared} {nm : String} (hn : op.info.2 = nm) {v u : Value} {R : Value → Shared → Prop} (h : wpAny M A (binaryOp1 nm v u) (fun r s' => ∃ z, r = some z ∧ R z s') Ex s) : wpAny M A (binaryOp op v u) R Ex s := by
  unfold binaryOp
  refine wpAny_holding (wpAny_bind ?_)
  subst hn
  refine wpAny_mono (show wpAny M A (binaryOp1 op.info.2 v u) _ _ _ from h) (fun r s' hr => ?_) fun _ _ e => e
  obtain ⟨z, rfl, q⟩ := hr
  exact wpAny_pure q
theorem op_oo {nm : String} (hn : op.info.2 = nm) (O : OpO X.K C nm f g) (F : FnOk X.prog X.w X.K X.mg X.base CX k f fd ps sp) (hr : Room k X.A) (hb : Binds X.K fd ps []) (hx : Passes CX X E) : OpR X (binaryOp op) (rOO C sp E) :=
  fun _ _ _ _ _ _ _ _ _ I rx ry h => bin_of hn (b1_oo O F hr hb hx I rx ry h)
theorem op_oi {nm : String} (hn : op.info.2 = nm) (O : OpO X.K C nm f g) (F : FnOk X.prog X.w X.K X.mg X.base CX k f fd ps sp) (hr : Room k X.A) (hb : Binds X.K fd ps []) (hx : Passes CX X E) : OpR X (binaryOp op) (rOI C sp E) :=
  fun _ _ _ _ _ _ _ _ _ I rx ry h => bin_of hn (b1_oi O F hr hb hx I rx ry h)
theorem op_io {nm : String} {id : String} {B : Builtin} (hn : op.info.2 = nm) (D : Dec nm id B) (O : OpO X.K C nm f g) (F : FnOk X.prog X.w X.K X.mg X.base CX k g fd ps sp) (hr : Room k X.A) (hb : Binds X.K fd ps []) (hx : Passes CX X E) : OpR X (binaryOp op) (rIO C sp E) :=
  fun _ _ _ _ _ _ _ _ _ I rx ry h => bin_of hn (b1_io D O F hr hb hx I rx ry h)
/-! ### in place, without a method of its own for it -/
structure NoI (K : PySem.W.Frag) (C : Addr) (nm : String) : Prop where
  mro : ∃ cd, PySem.W.clsIn K C = some cd ∧ cd.mro = [.ref C, .type "object"]
  own : PySem.W.findIn K (.ref C) (dunderI nm) = some none
  obj : PySem.W.findIn K (.type "object") (dunderI nm) = some none
open PySem.W in
theorem looks_noI {M : Model} {h : Heap} {nm : String} {add : Bool} {K : Frag} (X : K.In h) (N : NoI K C nm) : Looks M h (fillsInplaceSlot (.ref C) nm add) false := by
  intro A Q E s k q
  obtain ⟨cd, hc, hm⟩ := N.mro
  have Lm : Looks M h (mroOf (.ref C)) cd.mro := (looks_clsIn X hc).andThen (f := fun cd => pure cd.mro) .now
  have Lm' := Lm.keeps k
  obtain ⟨hh, g, d, tt, os⟩ := s
  have X' : K.In hh := X.keeps k
  have L1 : Looks M hh (typeLookup (.ref C) (dunderI nm)) none := looks_findIn X' N.own
  have L2 : Looks M hh (typeLookup (.type "object") (dunderI nm)) none := looks_findIn X' N.obj
  unfold fillsInplaceSlot
  refine wpAny_bind (Lm'.at ?_)
  rw [hm, List.anyM_cons]
  refine wpAny_bind (wpAny_bind (L1.at ?_))
  refine wpAny_pure ?_
  rw [if_neg Bool.false_ne_true, List.anyM_cons]
  refine wpAny_bind (wpAny_bind (L2.at ?_))
  refine wpAny_pure ?_
  rw [if_neg Bool.false_ne_true]
  exact wpAny_pure q
theorem inp_of {M : Model} {A : Around} {Ex : Value → Shared → Prop} {s : Shared} {nm : String} {K : PySem.W.Frag} {a dx : Addr} {ox : Obj} {od : Option Obj} (hn : op.info.2 = nm) (X : K.In s.heap) (I : PySem.W.InstAt s.heap a ox C od) (N : NoI K C nm) {u : Value} {R : Value → Shared → Prop}
    (h : wpAny M A (binaryOp1 nm (.ref a) u) (fun r s' => ∃ z, r = some z ∧ R z s') Ex s) : wpAny M A (inplaceOp op (.ref a) u) R Ex s := by
  subst hn
  unfold inplaceOp
  refine wpAny_holding ?_
  refine wpAny_bind (I.type.here ?_)
  refine wpAny_bind ((looks_noI X N).here ?_)
  rw [if_neg Bool.false_ne_true]
  refine wpAny_bind (wpAny_mono h (fun r s' hr => ?_) fun _ _ e => e)
  obtain ⟨z, rfl, q⟩ := hr
  exact wpAny_pure q
theorem iop_oo {nm : String} (hn : op.info.2 = nm) (N : NoI X.K C nm) (O : OpO X.K C nm f g) (F : FnOk X.prog X.w X.K X.mg X.base CX k f fd ps sp) (hr : Room k X.A) (hb : Binds X.K fd ps []) (hx : Passes CX X E) : OpR X (inplaceOp op) (rOO C sp E) := by
  intro pins s σ H x y v u Q I rx ry h
  have h' := b1_oo O F hr hb hx I rx ry h
  obtain ⟨a, dx, fs, b, dy, gs, rfl, rfl, ea, eb, q⟩ := h
  obtain rfl : v = Value.ref a := rx
  obtain ⟨mA, J, _⟩ := ins_get I.hok ea
  obtain ⟨od, J, _⟩ := J.look
  exact inp_of (dx := dx) hn I.kIn J N h'
theorem iop_oi {nm : String} (hn : op.info.2 = nm) (N : NoI X.K C nm) (O : OpO X.K C nm f g) (F : FnOk X.prog X.w X.K X.mg X.base CX k f fd ps sp) (hr : Room k X.A) (hb : Binds X.K fd ps []) (hx : Passes CX X E) : OpR X (inplaceOp op) (rOI C sp E) := by
  intro pins s σ H x y v u Q I rx ry h
  have h' := b1_oi O F hr hb hx I rx ry h
  obtain ⟨a, dx, fs, i, rfl, rfl, ea, q⟩ := h
  obtain rfl : v = Value.ref a := rx
  obtain ⟨mA, J, _⟩ := ins_get I.hok ea
  obtain ⟨od, J, _⟩ := J.look
  exact inp_of (dx := dx) hn I.kIn J N h'
/-! ### == by the class's own method, with either answer -/
theorem cmp_own (hs : PySem.W.findIn X.K (.ref C) "__eq__" = some (some (.ref f))) (hf : PySem.W.isFn X.K (.ref f) = true) (F : FnOk X.prog X.w X.K X.mg X.base CX k f fd ps sp) (hr : Room k X.A) (hb : Binds X.K fd ps []) (hx : Passes CX X E) : OpR X (compareOp .Eq) (rOO C sp E) := by
  intro pins s σ H x y v u Q I rx ry h
  obtain ⟨a, dx, fs, b, dy, gs, rfl, rfl, ea, eb, q⟩ := h
  obtain rfl : v = Value.ref a := rx
  obtain rfl : u = Value.ref b := ry
  obtain ⟨mA, J, _⟩ := ins_get I.hok ea
  obtain ⟨od, J, _⟩ := J.look
  obtain ⟨mB, J', _⟩ := ins_get I.hok eb
  obtain ⟨od', J', _⟩ := J'.look
  obtain ⟨m, hF⟩ := I.fr
  show wpAny (model X.prog X.w) X.A (richCompare .Eq (.ref a) (.ref b)) (EP X pins σ Q) X.xe s
  refine PySem.W.cmp_K (op := .Eq) (tb := .ref C) hr.units0 hF I.ok.mod.kin J J'.type (by simp [PySem.W.notFirst]) hs hf ?_
  exact wpAny_mono (run_own (vs := [V.ref a, V.ref b]) F hr hb hx I (.cons rfl (.cons rfl .nil)) q) (fun _ _ z => back_of z) fun _ _ e => e
/-! ### != of two lists with the same items -/
def plainV : V → Bool
  | .int _ => true
  | .ref _ => true
  | _ => false
def rNeSame (K : PySem.W.Frag) : R2 := fun x y H Q => ∃ a b xs, x = .ref a ∧ y = .ref b ∧ SqL K H a xs ∧ SqL K H b xs ∧ (∀ z ∈ xs, plainV z = true) ∧ Q (.bl false) H
theorem eqAt_same {A : Around} {s : Shared} {z : V} {u v : Value} (h : plainV z = true) (r : RelV z u) (r' : RelV z v) : SeqAt.EqAt A s u v true := by
  cases z with
  | int i =>
    have := eqAt_V (A := A) (s := s) r r' rfl rfl
    have e : eqV (.int i) (.int i) = true := by simp [eqV]
    rw [e] at this
    exact this
  | ref a =>
    obtain rfl : u = Value.ref a := r
    obtain rfl : v = Value.ref a := r'
    exact SeqAt.EqAt.same _
  | _ => cases h
theorem op_neSame (hu : X.A.units < cLine) : OpR X (compareOp .NotEq) (rNeSame X.K) := by
  intro pins s σ H x y v u Q I rx ry h
  obtain ⟨a, b, xs, rfl, rfl, ha, hb, hp, q⟩ := h
  obtain rfl : v = Value.ref a := rx
  obtain rfl : u = Value.ref b := ry
  obtain ⟨its, r, ⟨o, n, e, c, d, dt⟩, _⟩ := I.list ha
  obtain ⟨its2, r2, ⟨o2, n2, e2, c2, d2, dt2⟩, _⟩ := I.list hb
  have hsz : its.toArray.size = its2.toArray.size := by rw [List.size_toArray, List.size_toArray, ← r.length, ← r2.length]
  show wpAny (model X.prog X.w) X.A (richCompare .NotEq (.ref a) (.ref b)) (EP X pins σ Q) X.xe s
  refine SeqAt.RcNeAt.lists (e := fun _ => true) ⟨o, e, c, n, dt⟩ ⟨o2, e2, c2, n2, dt2⟩ hsz hu (fun j h1 h2 => ?_) _ _ _ _ ?_
  · have k1 : j < xs.length := by rw [r.length]; simpa using h1
    obtain ⟨w1, hw1, rw1⟩ := r.get (List.getElem?_eq_getElem k1)
    obtain ⟨w2, hw2, rw2⟩ := r2.get (List.getElem?_eq_getElem k1)
    have g1 : its[j]? = some its.toArray[j] := by
      have h1' : j < its.length := by simpa using h1
      rw [List.getElem?_eq_getElem h1'] <;> simp
    have g2 : its2[j]? = some its2.toArray[j] := by
      have h2' : j < its2.length := by simpa using h2
      rw [List.getElem?_eq_getElem h2'] <;> simp
    rw [g1] at hw1
    rw [g2] at hw2
    rw [Option.some.inj hw1, Option.some.inj hw2]
    exact eqAt_same (hp _ (List.getElem_mem k1)) rw1 rw2
  · have e : (!(List.range its.toArray.size).all fun _ => true) = false := by simp
    rw [e]
    exact ⟨.bl false, H, I, rfl, q⟩
end
/-! ### list or tuple -/
section
variable {X : Cx}
theorem ix_or {r1 r2 : R2} (a : IxR X r1) (b : IxR X r2) : IxR X (fun x y H Q => r1 x y H Q ∨ r2 x y H Q) := by
  intro value slice pins s σ H x y v u Q I rx ry h
  rcases h with h | h
  · exact a value slice pins s σ H x y v u Q I rx ry h
  · exact b value slice pins s σ H x y v u Q I rx ry h
def iSeq (K : PySem.W.Frag) (tl : TE) : TI := fun σ H R => tl σ H fun x H1 => ∃ a, x = .ref a ∧ (((∃ xs, SqL K H1 a xs) ∧ R (Itl K a) H1) ∨ ((∃ xs, SqT K H1 a xs) ∧ R (Itt K a) H1))
theorem pi_seq {tg l : Expr} {tl : TE} (hl : PE X l tl) : PI X tg l (iSeq X.K tl) := by
  refine ⟨fun pins s σ H R I h => ?_⟩
  refine thn (hl.run pins s σ H _ I h) fun v s1 ⟨x, H1, I1, r1, q1⟩ => ?_
  obtain ⟨a, e, ⟨⟨xs, hq⟩, q⟩ | ⟨⟨xs, hq⟩, q⟩⟩ := q1
  · subst e
    cases r1
    obtain ⟨its, rv, p, hz⟩ := I1.list hq
    refine wpAny_pyIter_list p.isList ?_
    refine ⟨s1.heap.objs.size, [s1.heap.objs.size], _, _, H1, rfl, I1.kept (t' := s1.toks) fun b o e => Heap.get?_push_of_some _ e, turn_list a _, ⟨_, Heap.get?_push_size _ rfl, rfl, rfl⟩, fun b hb => ?_, q⟩
    have e : b = s1.heap.objs.size := by simpa using hb
    subst e
    exact I1.fpOk (Nat.le_refl _) (I1.hok.fresh (Nat.le_refl _))
  · subst e
    cases r1
    obtain ⟨its, rv, p, hz⟩ := I1.tuple hq
    refine wpAny_pyIter_tuple (show s1.heap.IsTuple a its.toArray from p) ?_
    refine ⟨s1.heap.objs.size, [s1.heap.objs.size], _, _, H1, rfl, I1.kept (t' := s1.toks) fun b o e => Heap.get?_push_of_some _ e, turn_tuple a _, ⟨_, Heap.get?_push_size _ rfl, rfl, rfl⟩, fun b hb => ?_, q⟩
    have e : b = s1.heap.objs.size := by simpa using hb
    subst e
    exact I1.fpOk (Nat.le_refl _) (I1.hok.fresh (Nat.le_refl _))
end
end
end My

namespace My
open PySem PySem.Spec PyProof.Rows L2
def topS (i : Nat) : Stmt := PySem.Challenge.pw_extralink_k06_whole_ratio_script.main.body.getD i (.Pass ⟨0, 0, 0, 0⟩)
abbrev s_as_ratio : Stmt := topS 12
theorem sc_as_ratio : FnScope ["value"] ["value"] (defScope s_as_ratio) := ⟨rfl, rfl, rfl, by decide +kernel, rfl, by decide +kernel, by decide +kernel⟩
abbrev s_least : Stmt := topS 13
theorem sc_least : FnScope ["values", "best", "value", "ratio"] ["values"] (defScope s_least) := ⟨rfl, rfl, rfl, by decide +kernel, rfl, by decide +kernel, by decide +kernel⟩
abbrev s_greatest : Stmt := topS 14
theorem sc_greatest : FnScope ["values", "value"] ["values"] (defScope s_greatest) := ⟨rfl, rfl, rfl, by decide +kernel, rfl, by decide +kernel, by decide +kernel⟩
abbrev s_numeral : Stmt := topS 16
theorem sc_numeral : FnScope ["number", "rest", "pieces", "piece"] ["number"] (defScope s_numeral) := ⟨rfl, rfl, rfl, by decide +kernel, rfl, by decide +kernel, by decide +kernel⟩
abbrev s_start : Stmt := topS 18
theorem sc_start : FnScope ["_law_script", "_law_cell"] ["_law_script"] (defScope s_start) := ⟨rfl, rfl, rfl, by decide +kernel, rfl, by decide +kernel, by decide +kernel⟩
abbrev s_draw : Stmt := topS 19
theorem sc_draw : FnScope ["_law_state", "_law_size", "_law_digit", "_law_cell", "_law_one"] ["_law_state", "_law_size"] (defScope s_draw) := ⟨rfl, rfl, rfl, by decide +kernel, rfl, by decide +kernel, by decide +kernel⟩
abbrev s_low : Stmt := topS 20
theorem sc_low : FnScope ["_law_up", "_law_down", "_law_a", "_law_b"] ["_law_up", "_law_down"] (defScope s_low) := ⟨rfl, rfl, rfl, by decide +kernel, rfl, by decide +kernel, by decide +kernel⟩
abbrev s_plus : Stmt := topS 21
theorem sc_plus : FnScope ["_law_one", "_law_two"] ["_law_one", "_law_two"] (defScope s_plus) := ⟨rfl, rfl, rfl, by decide +kernel, rfl, by decide +kernel, by decide +kernel⟩
abbrev s_times : Stmt := topS 22
theorem sc_times : FnScope ["_law_one", "_law_two"] ["_law_one", "_law_two"] (defScope s_times) := ⟨rfl, rfl, rfl, by decide +kernel, rfl, by decide +kernel, by decide +kernel⟩
abbrev s_less : Stmt := topS 23
theorem sc_less : FnScope ["_law_one", "_law_two"] ["_law_one", "_law_two"] (defScope s_less) := ⟨rfl, rfl, rfl, by decide +kernel, rfl, by decide +kernel, by decide +kernel⟩
abbrev s_is : Stmt := topS 24
theorem sc_is : FnScope ["_law_actual", "_law_pair"] ["_law_actual", "_law_pair"] (defScope s_is) := ⟨rfl, rfl, rfl, by decide +kernel, rfl, by decide +kernel, by decide +kernel⟩
abbrev s_text : Stmt := topS 25
theorem sc_text : FnScope ["_law_pair"] ["_law_pair"] (defScope s_text) := ⟨rfl, rfl, rfl, by decide +kernel, rfl, by decide +kernel, by decide +kernel⟩
abbrev s_agrees : Stmt := topS 26
theorem sc_agrees : FnScope ["_law_ratios", "_law_pairs", "_law_i", "_law_k"] ["_law_ratios", "_law_pairs"] (defScope s_agrees) := ⟨rfl, rfl, rfl, by decide +kernel, rfl, by decide +kernel, by decide +kernel⟩
abbrev s_step : Stmt := topS 27
theorem sc_step : FnScope ["_law_state", "_law_ratios", "_law_pairs", "_law_j", "_law_k", "_law_n", "_law_plan", "_law_one", "_law_two"] ["_law_state", "_law_ratios", "_law_pairs"] (defScope s_step) := ⟨rfl, rfl, rfl, by decide +kernel, rfl, by decide +kernel, by decide +kernel⟩
abbrev s_law : Stmt := topS 28
theorem sc_law : FnScope ["_law_script", "_law_state", "_law_ratios", "_law_pairs", "_law_turn", "_law_i", "_law_ratio", "_law_pair"] ["_law_script"] (defScope s_law) := ⟨rfl, rfl, rfl, by decide +kernel, rfl, by decide +kernel, by decide +kernel⟩
abbrev s_Ratio_init : Stmt := inClass (topS 11) 0
theorem sc_Ratio_init : FnScope ["self", "top", "bottom", "common"] ["self", "top", "bottom"] (defScope s_Ratio_init) := ⟨rfl, rfl, rfl, by decide +kernel, rfl, by decide +kernel, by decide +kernel⟩
abbrev s_Ratio_top : Stmt := inClass (topS 11) 2
theorem sc_Ratio_top : FnScope ["self"] ["self"] (defScope s_Ratio_top) := ⟨rfl, rfl, rfl, by decide +kernel, rfl, by decide +kernel, by decide +kernel⟩
abbrev s_Ratio_bottom : Stmt := inClass (topS 11) 3
theorem sc_Ratio_bottom : FnScope ["self"] ["self"] (defScope s_Ratio_bottom) := ⟨rfl, rfl, rfl, by decide +kernel, rfl, by decide +kernel, by decide +kernel⟩
abbrev s_Ratio_sign : Stmt := inClass (topS 11) 4
theorem sc_Ratio_sign : FnScope ["self"] ["self"] (defScope s_Ratio_sign) := ⟨rfl, rfl, rfl, by decide +kernel, rfl, by decide +kernel, by decide +kernel⟩
abbrev s_Ratio_over : Stmt := inClass (topS 11) 5
theorem sc_Ratio_over : FnScope ["self", "value", "divisor"] ["self", "value"] (defScope s_Ratio_over) := ⟨rfl, rfl, rfl, by decide +kernel, rfl, by decide +kernel, by decide +kernel⟩
abbrev s_Ratio_below : Stmt := inClass (topS 11) 6
theorem sc_Ratio_below : FnScope ["self", "value", "other"] ["self", "value"] (defScope s_Ratio_below) := ⟨rfl, rfl, rfl, by decide +kernel, rfl, by decide +kernel, by decide +kernel⟩
abbrev s_Ratio_neg : Stmt := inClass (topS 11) 7
theorem sc_Ratio_neg : FnScope ["self"] ["self"] (defScope s_Ratio_neg) := ⟨rfl, rfl, rfl, by decide +kernel, rfl, by decide +kernel, by decide +kernel⟩
abbrev s_Ratio_add : Stmt := inClass (topS 11) 8
theorem sc_Ratio_add : FnScope ["self", "other", "addend", "top"] ["self", "other"] (defScope s_Ratio_add) := ⟨rfl, rfl, rfl, by decide +kernel, rfl, by decide +kernel, by decide +kernel⟩
abbrev s_Ratio_sub : Stmt := inClass (topS 11) 10
theorem sc_Ratio_sub : FnScope ["self", "other"] ["self", "other"] (defScope s_Ratio_sub) := ⟨rfl, rfl, rfl, by decide +kernel, rfl, by decide +kernel, by decide +kernel⟩
abbrev s_Ratio_rsub : Stmt := inClass (topS 11) 11
theorem sc_Ratio_rsub : FnScope ["self", "other"] ["self", "other"] (defScope s_Ratio_rsub) := ⟨rfl, rfl, rfl, by decide +kernel, rfl, by decide +kernel, by decide +kernel⟩
abbrev s_Ratio_mul : Stmt := inClass (topS 11) 12
theorem sc_Ratio_mul : FnScope ["self", "other", "factor"] ["self", "other"] (defScope s_Ratio_mul) := ⟨rfl, rfl, rfl, by decide +kernel, rfl, by decide +kernel, by decide +kernel⟩
abbrev s_Ratio_eq : Stmt := inClass (topS 11) 14
theorem sc_Ratio_eq : FnScope ["self", "other"] ["self", "other"] (defScope s_Ratio_eq) := ⟨rfl, rfl, rfl, by decide +kernel, rfl, by decide +kernel, by decide +kernel⟩
abbrev s_Ratio_str : Stmt := inClass (topS 11) 15
theorem sc_Ratio_str : FnScope ["self"] ["self"] (defScope s_Ratio_str) := ⟨rfl, rfl, rfl, by decide +kernel, rfl, by decide +kernel, by decide +kernel⟩
/-- what the top has written -/
structure Txt (K : PySem.W.Frag) (mg : Str → Option Value) where
  f_Ratio : Addr
  m_Ratio : mg "Ratio" = some (.ref f_Ratio)
  cl_Ratio : Cls K f_Ratio
  ic_Ratio : C8.InsC K f_Ratio
  na_Ratio_top : NoAttr K f_Ratio "_top"
  na_Ratio_bottom : NoAttr K f_Ratio "_bottom"
  ki_Ratio_int : PySem.W.kitOne K (.type "int") (.ref f_Ratio) = some false
  f_as_ratio : Addr
  d_as_ratio : FuncData
  F_as_ratio : Fun K "as_ratio" "as_ratio" s_as_ratio f_as_ratio d_as_ratio
  b_as_ratio : Binds K d_as_ratio ["value"] []
  m_as_ratio : mg "as_ratio" = some (.ref f_as_ratio)
  f_least : Addr
  d_least : FuncData
  F_least : Fun K "least" "least" s_least f_least d_least
  b_least : Binds K d_least ["values"] []
  m_least : mg "least" = some (.ref f_least)
  f_greatest : Addr
  d_greatest : FuncData
  F_greatest : Fun K "greatest" "greatest" s_greatest f_greatest d_greatest
  b_greatest : Binds K d_greatest ["values"] []
  m_greatest : mg "greatest" = some (.ref f_greatest)
  f_numeral : Addr
  d_numeral : FuncData
  F_numeral : Fun K "numeral" "numeral" s_numeral f_numeral d_numeral
  b_numeral : Binds K d_numeral ["number"] []
  m_numeral : mg "numeral" = some (.ref f_numeral)
  f_start : Addr
  d_start : FuncData
  F_start : Fun K "_law_start" "_law_start" s_start f_start d_start
  b_start : Binds K d_start ["_law_script"] []
  m_start : mg "_law_start" = some (.ref f_start)
  f_draw : Addr
  d_draw : FuncData
  F_draw : Fun K "_law_draw" "_law_draw" s_draw f_draw d_draw
  b_draw : Binds K d_draw ["_law_state", "_law_size"] []
  m_draw : mg "_law_draw" = some (.ref f_draw)
  f_low : Addr
  d_low : FuncData
  F_low : Fun K "_law_low" "_law_low" s_low f_low d_low
  b_low : Binds K d_low ["_law_up", "_law_down"] []
  m_low : mg "_law_low" = some (.ref f_low)
  f_plus : Addr
  d_plus : FuncData
  F_plus : Fun K "_law_plus" "_law_plus" s_plus f_plus d_plus
  b_plus : Binds K d_plus ["_law_one", "_law_two"] []
  m_plus : mg "_law_plus" = some (.ref f_plus)
  f_times : Addr
  d_times : FuncData
  F_times : Fun K "_law_times" "_law_times" s_times f_times d_times
  b_times : Binds K d_times ["_law_one", "_law_two"] []
  m_times : mg "_law_times" = some (.ref f_times)
  f_less : Addr
  d_less : FuncData
  F_less : Fun K "_law_less" "_law_less" s_less f_less d_less
  b_less : Binds K d_less ["_law_one", "_law_two"] []
  m_less : mg "_law_less" = some (.ref f_less)
  f_is : Addr
  d_is : FuncData
  F_is : Fun K "_law_is" "_law_is" s_is f_is d_is
  b_is : Binds K d_is ["_law_actual", "_law_pair"] []
  m_is : mg "_law_is" = some (.ref f_is)
  f_text : Addr
  d_text : FuncData
  F_text : Fun K "_law_text" "_law_text" s_text f_text d_text
  b_text : Binds K d_text ["_law_pair"] []
  m_text : mg "_law_text" = some (.ref f_text)
  f_agrees : Addr
  d_agrees : FuncData
  F_agrees : Fun K "_law_agrees" "_law_agrees" s_agrees f_agrees d_agrees
  b_agrees : Binds K d_agrees ["_law_ratios", "_law_pairs"] []
  m_agrees : mg "_law_agrees" = some (.ref f_agrees)
  f_step : Addr
  d_step : FuncData
  F_step : Fun K "_law_step" "_law_step" s_step f_step d_step
  b_step : Binds K d_step ["_law_state", "_law_ratios", "_law_pairs"] []
  m_step : mg "_law_step" = some (.ref f_step)
  f_Ratio_init : Addr
  d_Ratio_init : FuncData
  F_Ratio_init : FunD K "__init__" "Ratio.__init__" (defArgs s_Ratio_init) (defBody s_Ratio_init) (defScope s_Ratio_init) [V.int 1] [] f_Ratio_init d_Ratio_init
  a_Ratio_init : PySem.W.findIn K (.ref f_Ratio) "__init__" = some (some (.ref f_Ratio_init))
  i_Ratio_init : PySem.W.isFn K (.ref f_Ratio_init) = true
  mk_Ratio : Mk K f_Ratio f_Ratio_init
  f_Ratio_top : Addr
  d_Ratio_top : FuncData
  F_Ratio_top : Fun K "top" "Ratio.top" s_Ratio_top f_Ratio_top d_Ratio_top
  b_Ratio_top : Binds K d_Ratio_top ["self"] []
  p0_Ratio_top : Addr
  p_Ratio_top : PropOf K f_Ratio "top" p0_Ratio_top f_Ratio_top
  f_Ratio_bottom : Addr
  d_Ratio_bottom : FuncData
  F_Ratio_bottom : Fun K "bottom" "Ratio.bottom" s_Ratio_bottom f_Ratio_bottom d_Ratio_bottom
  b_Ratio_bottom : Binds K d_Ratio_bottom ["self"] []
  p0_Ratio_bottom : Addr
  p_Ratio_bottom : PropOf K f_Ratio "bottom" p0_Ratio_bottom f_Ratio_bottom
  f_Ratio_sign : Addr
  d_Ratio_sign : FuncData
  F_Ratio_sign : Fun K "sign" "Ratio.sign" s_Ratio_sign f_Ratio_sign d_Ratio_sign
  b_Ratio_sign : Binds K d_Ratio_sign ["self"] []
  p0_Ratio_sign : Addr
  p_Ratio_sign : PropOf K f_Ratio "sign" p0_Ratio_sign f_Ratio_sign
  f_Ratio_over : Addr
  d_Ratio_over : FuncData
  F_Ratio_over : Fun K "over" "Ratio.over" s_Ratio_over f_Ratio_over d_Ratio_over
  b_Ratio_over : Binds K d_Ratio_over ["self", "value"] []
  a_Ratio_over : PySem.W.findIn K (.ref f_Ratio) "over" = some (some (.ref f_Ratio_over))
  i_Ratio_over : PySem.W.isFn K (.ref f_Ratio_over) = true
  f_Ratio_below : Addr
  d_Ratio_below : FuncData
  F_Ratio_below : Fun K "below" "Ratio.below" s_Ratio_below f_Ratio_below d_Ratio_below
  b_Ratio_below : Binds K d_Ratio_below ["self", "value"] []
  a_Ratio_below : PySem.W.findIn K (.ref f_Ratio) "below" = some (some (.ref f_Ratio_below))
  i_Ratio_below : PySem.W.isFn K (.ref f_Ratio_below) = true
  f_Ratio_neg : Addr
  d_Ratio_neg : FuncData
  F_Ratio_neg : Fun K "__neg__" "Ratio.__neg__" s_Ratio_neg f_Ratio_neg d_Ratio_neg
  b_Ratio_neg : Binds K d_Ratio_neg ["self"] []
  a_Ratio_neg : PySem.W.findIn K (.ref f_Ratio) "__neg__" = some (some (.ref f_Ratio_neg))
  i_Ratio_neg : PySem.W.isFn K (.ref f_Ratio_neg) = true
  f_Ratio_add : Addr
  d_Ratio_add : FuncData
  F_Ratio_add : Fun K "__add__" "Ratio.__add__" s_Ratio_add f_Ratio_add d_Ratio_add
  b_Ratio_add : Binds K d_Ratio_add ["self", "other"] []
  a_Ratio_add : PySem.W.findIn K (.ref f_Ratio) "__add__" = some (some (.ref f_Ratio_add))
  i_Ratio_add : PySem.W.isFn K (.ref f_Ratio_add) = true
  f_Ratio_sub : Addr
  d_Ratio_sub : FuncData
  F_Ratio_sub : Fun K "__sub__" "Ratio.__sub__" s_Ratio_sub f_Ratio_sub d_Ratio_sub
  b_Ratio_sub : Binds K d_Ratio_sub ["self", "other"] []
  a_Ratio_sub : PySem.W.findIn K (.ref f_Ratio) "__sub__" = some (some (.ref f_Ratio_sub))
  i_Ratio_sub : PySem.W.isFn K (.ref f_Ratio_sub) = true
  f_Ratio_rsub : Addr
  d_Ratio_rsub : FuncData
  F_Ratio_rsub : Fun K "__rsub__" "Ratio.__rsub__" s_Ratio_rsub f_Ratio_rsub d_Ratio_rsub
  b_Ratio_rsub : Binds K d_Ratio_rsub ["self", "other"] []
  a_Ratio_rsub : PySem.W.findIn K (.ref f_Ratio) "__rsub__" = some (some (.ref f_Ratio_rsub))
  i_Ratio_rsub : PySem.W.isFn K (.ref f_Ratio_rsub) = true
  f_Ratio_mul : Addr
  d_Ratio_mul : FuncData
  F_Ratio_mul : Fun K "__mul__" "Ratio.__mul__" s_Ratio_mul f_Ratio_mul d_Ratio_mul
  b_Ratio_mul : Binds K d_Ratio_mul ["self", "other"] []
  a_Ratio_mul : PySem.W.findIn K (.ref f_Ratio) "__mul__" = some (some (.ref f_Ratio_mul))
  i_Ratio_mul : PySem.W.isFn K (.ref f_Ratio_mul) = true
  f_Ratio_eq : Addr
  d_Ratio_eq : FuncData
  F_Ratio_eq : Fun K "__eq__" "Ratio.__eq__" s_Ratio_eq f_Ratio_eq d_Ratio_eq
  b_Ratio_eq : Binds K d_Ratio_eq ["self", "other"] []
  a_Ratio_eq : PySem.W.findIn K (.ref f_Ratio) "__eq__" = some (some (.ref f_Ratio_eq))
  i_Ratio_eq : PySem.W.isFn K (.ref f_Ratio_eq) = true
  f_Ratio_str : Addr
  d_Ratio_str : FuncData
  F_Ratio_str : Fun K "__str__" "Ratio.__str__" s_Ratio_str f_Ratio_str d_Ratio_str
  b_Ratio_str : Binds K d_Ratio_str ["self"] []
  a_Ratio_str : PySem.W.findIn K (.ref f_Ratio) "__str__" = some (some (.ref f_Ratio_str))
  i_Ratio_str : PySem.W.isFn K (.ref f_Ratio_str) = true
  me_Ratio_over : Meth K f_Ratio "over" f_Ratio_over
  me_Ratio_below : Meth K f_Ratio "below" f_Ratio_below
  f_Ratio_radd : Addr
  op_Ratio_add : OpO K f_Ratio "add" f_Ratio_add f_Ratio_radd
  op_Ratio_sub : OpO K f_Ratio "sub" f_Ratio_sub f_Ratio_rsub
  f_Ratio_rmul : Addr
  op_Ratio_mul : OpO K f_Ratio "mul" f_Ratio_mul f_Ratio_rmul
  noi_Ratio_add : NoI K f_Ratio "add"
  e1_Ratio_init : List Value
  v1_Ratio_init : Vals [V.int 1] e1_Ratio_init
  b1_Ratio_init : Binds K d_Ratio_init ["self", "top", "bottom"] e1_Ratio_init
  e2_Ratio_init : List Value
  v2_Ratio_init : Vals [] e2_Ratio_init
  b2_Ratio_init : Binds K d_Ratio_init ["self", "top", "bottom"] e2_Ratio_init
  t_PIECE : Tok
  c_PIECE : mg "PIECE" = some (.int 10000000000000000000000000000000000000000000000000000000000000000 t_PIECE)
  t_PIECE_DIGITS : Tok
  c_PIECE_DIGITS : mg "PIECE_DIGITS" = some (.int 64 t_PIECE_DIGITS)
  g_gcd : mg "gcd" = some (.builtin "math.gcd")
  n_abs : mg "abs" = none
  n_divmod : mg "divmod" = none
  n_int : mg "int" = none
  n_isinstance : mg "isinstance" = none
  n_len : mg "len" = none
  n_list : mg "list" = none
  n_min : mg "min" = none
  n_range : mg "range" = none
  n_str : mg "str" = none
/-! ### the law's own draws: a list of great numbers, a list of cells, a count -/
section
variable {P : Program} {w : World} {K : PySem.W.Frag} {mg : Str → Option Value} {base : Heap}
/-- the state's objects as they stand; G is what else is known, the state is none of it -/
structure DS (G H : Hp) (s b c : Addr) (gs cs : List Int) (n : Nat) : Prop where
  same : Same G H
  fs : G s = none
  fb : G b = none
  fc : G c = none
  hs : H s = some (.lst [.ref b, .ref c, .int (n : Int)])
  hb : H b = some (.lst (gs.map V.int))
  hc : H c = some (.lst (cs.map V.int))
  ne : b ≠ c
  pos : 0 < cs.length
theorem DS.sb {G H : Hp} {s b c : Addr} {gs cs : List Int} {n : Nat} (d : DS G H s b c gs cs n) : s ≠ b := ne_of d.hs d.hb (by cases gs <;> simp)
theorem DS.sc {G H : Hp} {s b c : Addr} {gs cs : List Int} {n : Nat} (d : DS G H s b c gs cs n) : s ≠ c := ne_of d.hs d.hc (by cases cs <;> simp)
/-- at most m draws were made -/
def DSt (G H : Hp) (s : Addr) (m : Nat) : Prop := ∃ (b c : Addr) (gs cs : List Int) (n : Nat), DS G H s b c gs cs n ∧ n ≤ m
theorem DSt.same {G H : Hp} {s : Addr} {m : Nat} (d : DSt G H s m) : Same G H := let ⟨_, _, _, _, _, d, _⟩ := d; d.same
theorem DSt.mono {G H : Hp} {s : Addr} {m m' : Nat} (d : DSt G H s m) (h : m ≤ m') : DSt G H s m' := let ⟨b, c, gs, cs, n, d, hn⟩ := d; ⟨b, c, gs, cs, n, d, Nat.le_trans hn h⟩
/-- a new object comes beside, known from then on -/
theorem DSt.new {G H : Hp} {s : Addr} {m : Nat} {p : Addr} {o : HO} (d : DSt G H s m) (hp : H p = none) : DSt (upd G p o) (upd H p o) s m := by
  obtain ⟨b, c, gs, cs, n, d, hn⟩ := d
  have n1 : s ≠ p := ne_of_none d.hs hp
  have n2 : b ≠ p := ne_of_none d.hb hp
  have n3 : c ≠ p := ne_of_none d.hc hp
  refine ⟨b, c, gs, cs, n, ⟨fun a u e => ?_, ?_, ?_, ?_, ?_, ?_, ?_, d.ne, d.pos⟩, hn⟩
  · by_cases ha : a = p
    · subst ha; rw [upd_same] at e ⊢; exact e
    · rw [upd_ne ha] at e ⊢; exact d.same a u e
  · rw [upd_ne n1]; exact d.fs
  · rw [upd_ne n2]; exact d.fb
  · rw [upd_ne n3]; exact d.fc
  · rw [upd_ne n1]; exact d.hs
  · rw [upd_ne n2]; exact d.hb
  · rw [upd_ne n3]; exact d.hc
/-- a known object changes -/
theorem DSt.put {G H : Hp} {s : Addr} {m : Nat} {p : Addr} {o u : HO} (d : DSt G H s m) (hp : G p = some u) : DSt (upd G p o) (upd H p o) s m := by
  obtain ⟨b, c, gs, cs, n, d, hn⟩ := d
  have n1 : s ≠ p := fun e => by rw [← e, d.fs] at hp; cases hp
  have n2 : b ≠ p := fun e => by rw [← e, d.fb] at hp; cases hp
  have n3 : c ≠ p := fun e => by rw [← e, d.fc] at hp; cases hp
  refine ⟨b, c, gs, cs, n, ⟨fun a v e => ?_, ?_, ?_, ?_, ?_, ?_, ?_, d.ne, d.pos⟩, hn⟩
  · by_cases ha : a = p
    · subst ha; rw [upd_same] at e ⊢; exact e
    · rw [upd_ne ha] at e ⊢; exact d.same a v e
  · rw [upd_ne n1]; exact d.fs
  · rw [upd_ne n2]; exact d.fb
  · rw [upd_ne n3]; exact d.fc
  · rw [upd_ne n1]; exact d.hs
  · rw [upd_ne n2]; exact d.hb
  · rw [upd_ne n3]; exact d.hc
/-- what else is known of the heap may be less, the rest may be more -/
theorem DSt.less {G G' H : Hp} {s : Addr} {m : Nat} (d : DSt G H s m) (h : Same G' G) : DSt G' H s m := by
  obtain ⟨b, c, gs, cs, n, d, hn⟩ := d
  have fr : ∀ a, G a = none → G' a = none := fun a e => h.free e
  exact ⟨b, c, gs, cs, n, ⟨h.trans d.same, fr _ d.fs, fr _ d.fb, fr _ d.fc, d.hs, d.hb, d.hc, d.ne, d.pos⟩, hn⟩
/-- all that stands behind stays; known is what was known -/
theorem DSt.on {G H H' : Hp} {s : Addr} {m : Nat} (d : DSt G H s m) (h : Same H H') : DSt G H' s m := by
  obtain ⟨b, c, gs, cs, n, d, hn⟩ := d
  exact ⟨b, c, gs, cs, n, ⟨d.same.trans h, d.fs, d.fb, d.fc, h _ _ d.hs, h _ _ d.hb, h _ _ d.hc, d.ne, d.pos⟩, hn⟩
theorem DSt.free {G H : Hp} {s : Addr} {m : Nat} {p : Addr} (d : DSt G H s m) (hp : H p = none) : G p = none := d.same.free hp

def spStart (K : PySem.W.Frag) : Sp := fun vs H Q _ => ∃ (a : Addr) (ns : List Int), vs = [.ref a] ∧ SqL K H a (ns.map V.int) ∧ ns.length ≤ 63 ∧ ∀ (s : Addr) (H' : Hp), DSt H H' s 0 → Q (.ref s) H'
def spDraw : Sp := fun vs H Q _ => ∃ (G : Hp) (s : Addr) (m : Nat) (sz : Int), vs = [.ref s, .int sz] ∧ DSt G H s m ∧ m < 1000000 ∧ 0 < sz ∧ sz < 2 ^ 200 ∧
  ∀ (r : Int) (H' : Hp), 0 ≤ r → r < sz → DSt G H' s (m + 1) → Q (.int r) H'

theorem take_more {α : Type} : ∀ {l : List α} {i : Nat} {x : α}, l[i]? = some x → l.take (i + 1) = l.take i ++ [x]
  | [], i, x, h => by simp at h
  | a :: l, 0, x, h => by
    have e : a = x := Option.some.inj h
    subst e
    rfl
  | a :: l, i + 1, x, h => by
    have ih := take_more (l := l) (i := i) (x := x) h
    show a :: l.take (i + 1) = a :: l.take i ++ [x]
    rw [ih]
    rfl
theorem pow_lt (c n : Int) (hc : 0 ≤ c) (hc2 : c < 2147483647) (hn : 0 ≤ n) (hn2 : n ≤ 1000001) : (c * 48271 + n * 69621 + 7).natAbs < 2 ^ 64 := by omega
theorem pow_lt2 (c n : Int) (hc : 0 ≤ c) (hc2 : c < 2147483647) (hn : 0 ≤ n) (hn2 : n ≤ 1000001) : (c * 16807 + n * 40692 + 13).natAbs < 2 ^ 64 := by omega

theorem cut1 (xs : List V) : cutV xs (some 1) none = xs.drop 1 := by
  unfold cutV
  rw [show HT.sIx xs.length 0 (some 1) = min 1 xs.length from HT.sIx_nat xs.length 0 1, HT.sIx_none]
  cases xs with
  | nil => rfl
  | cons x r =>
    rw [show min 1 (x :: r).length = 1 by
      rw [List.length_cons]
      omega]
    show (List.take ((x :: r).length - 1) r) = r
    rw [List.length_cons, Nat.add_sub_cancel]
    exact List.take_length
theorem big1 : (0 : Int) < 2147483647 := by decide
theorem big2 : (0 : Int) < 2147483629 := by decide
theorem ok_start (T : Txt K mg) : FnOk P w K mg base CX0 1 T.f_start T.d_start ["_law_script"] (spStart K) := by
  refine T.F_start.ok sc_start (fun vs H Q E h => ?_) (fun cdv A outer s H vs Q E hr h => ?_)
  · obtain ⟨a, ns, rfl, _⟩ := h
    rfl
  · obtain ⟨a, ns, rfl, hS, hlen, k⟩ := h
    refine ⟨_, (pss_one (ps_ret (pe_lst (pa_cons (pe_lc (own := [("_law_cell", 1)]) (g := gName 1) rfl sc_start.nd (pi_list (pv 0)) (blkOk_by (N := ["_law_script", "_law_cell"]) (sc := defScope s_start) (by decide +kernel)) (fun _ _ _ _ _ => pg_name (i := 1) sc_start.nd rfl (Or.inl rfl)) (fun _ _ _ _ _ => pts_one (pt_cmpR op_ge (pe_callB call_abs (by rfl) T.n_abs (by decide +kernel) (pa_cons (pv 1) pa_nil)) (pe_op op_pow pe_int pe_int) (nomark _))) (fun _ _ _ _ _ => (pe_callB call_abs (by rfl) T.n_abs (by decide +kernel) (pa_cons (pv 1) pa_nil)))) (pa_cons (pe_op op_cat (pe_callTy call_list_of (by rfl) T.n_list (by decide +kernel) (pa_cons (pv 0) pa_nil)) (pe_lst (pa_cons pe_int pa_nil))) (pa_cons pe_int pa_nil)))))), ?_⟩
    refine ⟨_, rfl, a, rfl, ⟨_, hS⟩, fun D hD => ?_⟩
    refine lc_list (K := K) (a := a) (xs := ns.map V.int) (fun i H1 => ∃ gs : List Int, gs.length ≤ i ∧ H1 D = some (.lst (gs.map V.int)) ∧ Same H H1) ⟨[], Nat.le_refl _, upd_same, same_upd hD⟩ (fun i H1 _ ⟨_, _, _, sm⟩ => sm.seq hS) ?_ ?_
    · intro i x H1 hi ⟨gs, hg, eD, sm⟩
      obtain ⟨z, rfl⟩ : ∃ z, x = V.int z := by
        rw [List.getElem?_map] at hi
        cases e : ns[i]? with
        | none =>
          rw [e] at hi
          cases hi
        | some z =>
          rw [e] at hi
          exact ⟨z, (Option.some.inj hi).symm⟩
      have hi63 : i < 63 := by
        have := (List.getElem?_eq_some_iff.mp hi).1
        rw [List.length_map] at this
        omega
      refine ⟨rfl, _, rfl, z, rfl, 10, 18, rfl, rfl, ⟨by decide, by decide, by decide⟩, _, _, rfl, rfl, _, rfl, ?_⟩
      refine ite2 (fun _ => ?_) fun _ => ?_
      · refine ⟨_, rfl, z, rfl, gs.map V.int, eD, small1000 (by rw [List.length_map]; omega), gs ++ [if z < 0 then -z else z], by rw [List.length_append]; exact Nat.add_le_add_right hg 1, ?_, same_mut sm hD⟩
        rw [upd_same, List.map_append]
        rfl
      · exact ⟨gs, Nat.le_succ_of_le hg, eD, sm⟩
    · intro H1 ⟨gs, hg, eD, sm⟩
      refine ⟨_, rfl, a, _, rfl, .inl (sm.seq hS), fun l hl => ?_⟩
      refine ⟨by show 1 ≤ sizeLine; decide, fun o ho => ?_⟩
      have nlo : l ≠ o := fun e => by
        rw [← e, upd_same] at ho
        cases ho
      refine ⟨l, o, _, _, rfl, rfl, by rw [upd_ne nlo]; exact upd_same, upd_same, Nat.le_of_lt (small1000 ?_), fun c hc => ?_⟩
      · rw [List.length_map]
        show ns.length + 1 ≤ 1000
        omega
      refine ⟨by show 3 ≤ sizeLine; decide, fun st hst => ?_⟩
      have eDo : (upd (upd H1 l (.lst (ns.map V.int))) o (.lst [V.int 5])) D = some (.lst (gs.map V.int)) := same_upd ho _ _ (same_upd hl _ _ eD)
      have nDc : D ≠ c := ne_of_none eDo hc
      have hcs := hst
      have ncst : c ≠ st := fun e => by
        rw [← e, upd_same] at hst
        cases hst
      have nDst : D ≠ st := ne_of_none (same_upd hc _ _ eDo) hst
      have sm4 : Same H (upd (upd (upd H1 l (.lst (ns.map V.int))) o (.lst [V.int 5])) c (.lst (ns.map V.int ++ [V.int 5]))) := ((sm.trans (same_upd hl)).trans (same_upd ho)).trans (same_upd hc)
      refine k st _ ⟨D, c, gs, ns ++ [5], 0, ⟨sm4.trans (same_upd hst), sm4.free hst, hD, ((sm.trans (same_upd hl)).trans (same_upd ho)).free hc, upd_same, ?_, ?_, nDc, by rw [List.length_append]; exact Nat.succ_pos _⟩, Nat.le_refl _⟩
      · rw [upd_ne nDst]
        exact same_upd hc _ _ eDo
      · rw [upd_ne ncst, upd_same, List.map_append]
        rfl

theorem ok_draw (T : Txt K mg) : FnOk P w K mg base CX0 1 T.f_draw T.d_draw ["_law_state", "_law_size"] spDraw := by
  refine T.F_draw.ok sc_draw (fun vs H Q E h => ?_) (fun cdv A outer s H vs Q E hr h => ?_)
  · obtain ⟨G, a, m, sz, rfl, _⟩ := h
    rfl
  · obtain ⟨G, a, m, sz, rfl, ⟨b0, c, gs0, cs, n, d0, hn⟩, hm, hs0, hs2, k⟩ := h
    refine ⟨_, (pss_cons (ps_augS (pv 0) pe_int get_list pe_int ip_add set_list)
    (C8.pss_cut (ps_while PassesOwn.never (PW.pt (pw_and (pt_cmpR (op_neD hr.units) (pe_ix ix_list (pv 0) pe_int (fun _ _ => rfl)) (pe_lst pa_nil) (nomark _)) (pw_and1 (pt_cmpR op_eq (pe_ix ix_list (pe_ix ix_list (pv 0) pe_int (fun _ _ => rfl)) pe_int (fun _ _ => rfl)) pe_int (nomark _)))))
      (pss_one (ps_asg (pe_slice sl_list (pe_ix ix_list (pv 0) pe_int (fun _ _ => rfl)) (po_some pe_int) po_none) (pg_sub (pv 0) pe_int set_list))))
    (pss_cons (ps_if (pt_cmpR (op_neD hr.units) (pe_ix ix_list (pv 0) pe_int (fun _ _ => rfl)) (pe_lst pa_nil) (nomark _))
      (pss_cons (ps_set (i := 2) sc_draw.nd rfl (Or.inl rfl) (pe_op op_mod (pe_callTy call_int1 (by rfl) T.n_int (by decide +kernel) (pa_cons (pe_ix ix_list (pe_ix ix_list (pv 0) pe_int (fun _ _ => rfl)) pe_int (fun _ _ => rfl)) pa_nil)) (pv 1)))
    (pss_cons (ps_asg (pe_op op_fdivW (pe_ix ix_list (pe_ix ix_list (pv 0) pe_int (fun _ _ => rfl)) pe_int (fun _ _ => rfl)) (pv 1)) (pg_sub (pe_ix ix_list (pv 0) pe_int (fun _ _ => rfl)) pe_int set_list))
    (pss_one (ps_ret (pv 2)))))
      pss_nil)
    (pss_cons (ps_set (i := 3) sc_draw.nd rfl (Or.inl rfl) (pe_op op_mod (pe_callTy call_int1 (by rfl) T.n_int (by decide +kernel) (pa_cons (pe_ix ix_list (pe_ix ix_list (pv 0) pe_int (fun _ _ => rfl)) (pe_op op_mod (pe_callTy call_int1 (by rfl) T.n_int (by decide +kernel) (pa_cons (pe_ix ix_list (pv 0) pe_int (fun _ _ => rfl)) pa_nil)) (pe_callB call_len_seq (by rfl) T.n_len (by decide +kernel) (pa_cons (pe_ix ix_list (pv 0) pe_int (fun _ _ => rfl)) pa_nil))) (fun _ _ => rfl)) pa_nil)) pe_int))
    (pss_cons (ps_set (i := 4) sc_draw.nd rfl (Or.inl rfl) (pe_op op_mod (pe_callTy call_int1 (by rfl) T.n_int (by decide +kernel) (pa_cons (pe_op op_pow (pe_op op_add (pe_op op_add (pe_op op_mul (pv 3) pe_int) (pe_op op_mul (pe_ix ix_list (pv 0) pe_int (fun _ _ => rfl)) pe_int)) pe_int) pe_int) pa_nil)) pe_int))
    (pss_one (ps_ret (pe_op op_mod (pe_op op_mod (pe_callTy call_int1 (by rfl) T.n_int (by decide +kernel) (pa_cons (pe_op op_pow (pe_op op_add (pe_op op_add (pe_op op_mul (pv 4) pe_int) (pe_op op_mul (pe_ix ix_list (pv 0) pe_int (fun _ _ => rfl)) pe_int)) pe_int) pe_int) pa_nil)) pe_int) (pv 1))))))))), ?_⟩
    -- the count
    refine ⟨_, rfl, a, _, 2, _, rfl, rfl, SqL.of d0.hs, by decide, rfl, (n : Int), 1, rfl, rfl, a, _, 2, 2, rfl, rfl, d0.hs, rfl, ?_⟩
    have d1 : DS G (upd H a (.lst [V.ref b0, V.ref c, V.int ((n + 1 : Nat) : Int)])) a b0 c gs0 cs (n + 1) :=
      ⟨same_mut d0.same d0.fs, d0.fs, d0.fb, d0.fc, upd_same, by rw [upd_ne d0.sb.symm]; exact d0.hb, by rw [upd_ne d0.sc.symm]; exact d0.hc, d0.ne, d0.pos⟩
    -- the noughts ahead go
    refine ⟨fun σ H2 => σ = [some (.ref a), some (.int sz), none, none, none] ∧ ∃ (b : Addr) (gs : List Int), DS G H2 a b c gs cs (n + 1), ?_, ?_⟩
    · refine ⟨fun j σ H2 => σ = [some (.ref a), some (.int sz), none, none, none] ∧ ∃ (b : Addr) (gs : List Int), gs.length = j ∧ DS G H2 a b c gs cs (n + 1), ⟨_, rfl, b0, gs0, rfl, d1⟩, ?_⟩
      rintro j σ H2 ⟨rfl, b, gs, rfl, d⟩
      refine ⟨_, rfl, a, _, 0, _, rfl, rfl, SqL.of d.hs, rfl, Nat.zero_le _, fun p hp => ?_⟩
      have sp : Same H2 (upd H2 p (.lst [])) := same_upd hp
      have d2 : DS G (upd H2 p (.lst [])) a b c gs cs (n + 1) := ⟨d.same.trans sp, d.fs, d.fb, d.fc, sp _ _ d.hs, sp _ _ d.hb, sp _ _ d.hc, d.ne, d.pos⟩
      cases gs with
      | nil =>
        refine ⟨.list [], .list [], .lst (SqL.of d2.hb) .nil, .lst (SqL.of upd_same) .nil, shaped_ints [], shaped_ints [], false, by simp [PyData.eqv, PyData.eqvAll], iteF (iteF (⟨rfl, b, [], d2⟩))⟩
      | cons g r =>
        refine ⟨.list ((g :: r).map PyData.int), .list [], .lst (SqL.of d2.hb) (dp_ints _), .lst (SqL.of upd_same) .nil, shaped_ints _, shaped_ints [], true, by simp [PyData.eqv, PyData.eqvAll], iteT ?_⟩
        refine ⟨_, rfl, a, _, 0, _, rfl, rfl, SqL.of d2.hs, rfl, b, _, 0, .int g, rfl, rfl, SqL.of d2.hb, at0, rfl, _, rfl, ite2 (fun _ => ?_) fun _ => ⟨rfl, b, _, d2⟩⟩
        -- state[0] = state[0][1:]
        refine ⟨fun σ H3 => σ = [some (.ref a), some (.int sz), none, none, none] ∧ ∃ (b : Addr) (gs : List Int), gs.length = r.length ∧ DS G H3 a b c gs cs (n + 1), fun σ' H' h' => ⟨r.length, Nat.lt_succ_self _, h'⟩, ?_⟩
        refine ⟨_, rfl, a, _, 0, _, rfl, rfl, SqL.of d2.hs, rfl, 1, rfl, b, _, rfl, SqL.of d2.hb, fun q hq => ?_⟩
        have n1 : a ≠ q := ne_of_none d2.hs hq
        have n3 : c ≠ q := ne_of_none d2.hc hq
        refine ⟨_, rfl, a, _, 0, 0, rfl, rfl, by rw [upd_ne n1]; exact d2.hs, rfl, rfl, q, r, rfl, ?_⟩
        exact ⟨same_mut (d2.same.trans (same_upd hq)) d2.fs, d2.fs, d2.same.free hq, d2.fc, upd_same, by rw [upd_ne n1.symm, upd_same, cut1]; rfl, by rw [upd_ne d2.sc.symm, upd_ne n3]; exact d2.hc, n3.symm, d2.pos⟩
    · rintro σ H2 ⟨rfl, b, gs, d⟩
      refine ⟨_, rfl, a, _, 0, _, rfl, rfl, SqL.of d.hs, rfl, Nat.zero_le _, fun p hp => ?_⟩
      have sp : Same H2 (upd H2 p (.lst [])) := same_upd hp
      have d2 : DS G (upd H2 p (.lst [])) a b c gs cs (n + 1) := ⟨d.same.trans sp, d.fs, d.fb, d.fc, sp _ _ d.hs, sp _ _ d.hb, sp _ _ d.hc, d.ne, d.pos⟩
      cases gs with
      | cons g r =>
        refine ⟨.list ((g :: r).map PyData.int), .list [], .lst (SqL.of d2.hb) (dp_ints _), .lst (SqL.of upd_same) .nil, shaped_ints _, shaped_ints [], true, by simp [PyData.eqv, PyData.eqvAll], iteT ?_⟩
        refine ⟨_, rfl, a, _, 0, _, rfl, rfl, SqL.of d2.hs, rfl, b, _, 0, .int g, rfl, rfl, SqL.of d2.hb, at0, .inl ⟨g, rfl, ?_⟩⟩
        refine ⟨_, rfl, g, sz, rfl, rfl, hs0, ?_⟩
        refine ⟨_, rfl, a, _, 0, _, rfl, rfl, SqL.of d2.hs, rfl, b, _, 0, .int g, rfl, rfl, SqL.of d2.hb, at0, _, rfl, g, sz, rfl, rfl, wide_div (b := 200) hs0 (by omega) (by decide) (by decide), ?_⟩
        refine ⟨_, rfl, a, _, 0, _, rfl, rfl, SqL.of d2.hs, rfl, b, _, 0, 0, rfl, rfl, d2.hb, ix0 (Nat.succ_pos _), ?_⟩
        refine ⟨_, rfl, k _ _ (Int.emod_nonneg _ (by omega)) (Int.emod_lt_of_pos _ hs0) ⟨b, c, g / sz :: r, cs, n + 1, ?_, Nat.succ_le_succ hn⟩⟩
        exact ⟨same_mut d2.same d2.fb, d2.fs, d2.fb, d2.fc, by rw [upd_ne d2.sb]; exact d2.hs, upd_same, by rw [upd_ne d2.ne.symm]; exact d2.hc, d2.ne, d2.pos⟩
      | nil =>
        refine ⟨.list [], .list [], .lst (SqL.of d2.hb) .nil, .lst (SqL.of upd_same) .nil, shaped_ints [], shaped_ints [], false, by simp [PyData.eqv, PyData.eqvAll], iteF ?_⟩
        have hl : (0 : Int) < (cs.length : Int) := by have := d.pos; omega
        have i0 : 0 ≤ ((n + 1 : Nat) : Int) % (cs.length : Int) := Int.emod_nonneg _ (by omega)
        have i1 : ((n + 1 : Nat) : Int) % (cs.length : Int) < (cs.length : Int) := Int.emod_lt_of_pos _ hl
        obtain ⟨j, ej⟩ : ∃ j : Nat, ((n + 1 : Nat) : Int) % (cs.length : Int) = (j : Int) := ⟨(((n + 1 : Nat) : Int) % (cs.length : Int)).toNat, by omega⟩
        have hj : j < cs.length := by omega
        refine ⟨_, rfl, a, _, 1, _, rfl, rfl, SqL.of d2.hs, rfl, _, rfl, a, _, 2, _, rfl, rfl, SqL.of d2.hs, rfl, .inl ⟨_, rfl, ?_⟩⟩
        refine ⟨_, rfl, a, _, 1, _, rfl, rfl, SqL.of d2.hs, rfl, c, _, rfl, .inl (SqL.of d2.hc), _, _, rfl, rfl, by rw [List.length_map]; exact hl, ?_⟩
        refine ⟨c, _, _, .int cs[j], rfl, rfl, SqL.of d2.hc, by rw [List.length_map]; exact at_of ej (by rw [List.getElem?_map, List.getElem?_eq_getElem hj]; rfl), .inl ⟨_, rfl, _, _, rfl, rfl, big1, ?_⟩⟩
        have c0 : 0 ≤ cs[j] % 2147483647 := Int.emod_nonneg _ (by decide)
        have c1 : cs[j] % 2147483647 < 2147483647 := Int.emod_lt_of_pos _ (by decide)
        refine ⟨_, rfl, _, _, rfl, rfl, .inr ⟨by decide, by decide⟩, _, rfl, a, _, 2, _, rfl, rfl, SqL.of d2.hs, rfl, _, _, rfl, rfl, .inr ⟨by decide, by decide⟩, _, _, rfl, rfl, _, _, rfl, rfl, _, _, rfl, rfl, ⟨by decide, by decide, pow_lt _ _ c0 c1 (by omega) (by omega)⟩, .inl ⟨_, rfl, _, _, rfl, rfl, big1, ?_⟩⟩
        have e0 : ∀ z : Int, 0 ≤ z % 2147483647 := fun z => Int.emod_nonneg _ (by decide)
        have e1 : ∀ z : Int, z % 2147483647 < 2147483647 := fun z => Int.emod_lt_of_pos _ (by decide)
        refine ⟨_, rfl, _, _, rfl, rfl, .inr ⟨by decide, by decide⟩, _, rfl, a, _, 2, _, rfl, rfl, SqL.of d2.hs, rfl, _, _, rfl, rfl, .inr ⟨by decide, by decide⟩, _, _, rfl, rfl, _, _, rfl, rfl, _, _, rfl, rfl, ⟨by decide, by decide, pow_lt2 _ _ (e0 _) (e1 _) (by omega) (by omega)⟩, .inl ⟨_, rfl, _, _, rfl, rfl, big2, ?_⟩⟩
        refine ⟨_, rfl, _, sz, rfl, rfl, hs0, ?_⟩
        exact k _ _ (Int.emod_nonneg _ (by omega)) (Int.emod_lt_of_pos _ hs0) ⟨b, c, [], cs, n + 1, d2, Nat.succ_le_succ hn⟩
end

/-! ### ratios -/
section
variable {P : Program} {w : World} {K : PySem.W.Frag} {mg : Str → Option Value} {base : Heap}
/-- a ratio's attributes -/
def rf (t b : Int) : List (Str × V) := [("_top", .int t), ("_bottom", .int b)]
theorem rf_top (t b : Int) : (rf t b).lookup ("_top" : Str) = some (.int t) := by simp [rf, List.lookup]
theorem nTB : (("_bottom" : Str) == ("_top" : Str)) = false := by decide +kernel
theorem nBT : (("_top" : Str) == ("_bottom" : Str)) = false := by decide +kernel
theorem rf_bottom (t b : Int) : (rf t b).lookup ("_bottom" : Str) = some (.int b) := by simp [rf, List.lookup, nTB]
def RatAt (C : Addr) (H : Hp) (p : Addr) (t b : Int) : Prop := ∃ dx, H p = some (.ins C dx (rf t b))
/-- the divisor -/
def dvs (t b : Int) : Int := if b < 0 then -((Nat.gcd t.natAbs b.natAbs : Nat) : Int) else ((Nat.gcd t.natAbs b.natAbs : Nat) : Int)
def lowT (t b : Int) : Int := t.fdiv (dvs t b)
def lowB (t b : Int) : Int := b.fdiv (dvs t b)
def BIG (z : Int) : Prop := z.natAbs < 2 ^ 8000
theorem dvs_ne {t b : Int} (h : b ≠ 0) : dvs t b ≠ 0 := by
  have hg : 0 < Nat.gcd t.natAbs b.natAbs := Nat.gcd_pos_of_pos_right _ (by omega)
  unfold dvs
  split <;> omega
theorem dvs_le {t b : Int} (h : b ≠ 0) : (dvs t b).natAbs ≤ b.natAbs := by
  have hg : Nat.gcd t.natAbs b.natAbs ≤ b.natAbs := Nat.le_of_dvd (by omega) (Nat.gcd_dvd_right _ _)
  unfold dvs
  split <;> omega
/-- Ratio(t, b), b not 0 -/
def spInit (C : Addr) : Sp := fun vs H Q _ => ∃ (p dx : Addr) (t b : Int), vs = [.ref p, .int t, .int b] ∧ H p = some (.ins C dx []) ∧ b ≠ 0 ∧ BIG b ∧ ∀ H', RatAt C H' p (lowT t b) (lowB t b) → (∀ a o, H a = some o → a ≠ p → H' a = some o) → Q .non H'
theorem ok_init (T : Txt K mg) : FnOk P w K mg base CX0 1 T.f_Ratio_init T.d_Ratio_init ["self", "top", "bottom"] (spInit T.f_Ratio) := by
  refine T.F_Ratio_init.ok sc_Ratio_init (fun vs H Q E h => ?_) (fun cdv A outer s H vs Q E hr h => ?_)
  · obtain ⟨p, dx, t, b, rfl, _⟩ := h
    rfl
  · obtain ⟨p, dx, t, b, rfl, hp, hb, hB, k⟩ := h
    refine ⟨_, PSs.nox (pss_cons (ps_if (pt_cmpR op_eq (pv 2) pe_int (nomark _))
      (pss_one ps_never)
      pss_nil)
    (pss_cons (ps_set (i := 3) sc_Ratio_init.nd rfl (Or.inl rfl) (pe_callBfun cr_gcd rfl T.g_gcd (pa_cons (pv 1) (pa_cons (pv 2) pa_nil))))
    (C8.pss_cut (ps_if (pt_cmpR op_lt (pv 2) pe_int (nomark _))
      (pss_one (ps_set (i := 3) sc_Ratio_init.nd rfl (Or.inl rfl) (pe_un un_neg (pv 3))))
      pss_nil)
    (pss_cons (ps_fld (pv 0) (pe_op op_fdivZ (pv 1) (pv 3)) rfl)
    (pss_one (ps_fld (pv 0) (pe_op op_fdivZ (pv 2) (pv 3)) rfl)))))), ?_⟩
    refine ⟨_, rfl, rfl, _, rfl, ite2 (fun h0 => ?_) fun _ => ?_⟩
    · have e : V.int b = V.int 0 := of_decide_eq_true h0
      injection e with e
      exact absurd e hb
    refine ⟨_, rfl, _, rfl, t, b, rfl, ?_⟩
    refine ⟨fun σ H' => σ = [some (.ref p), some (.int t), some (.int b), some (.int (dvs t b))] ∧ H' = H, ?_, ?_⟩
    · refine ⟨_, rfl, b, 0, rfl, rfl, _, rfl, ite2 (fun h0 => ?_) fun h0 => ?_⟩
      · have h0' : b < 0 := of_decide_eq_true h0
        refine ⟨_, rfl, _, rfl, ?_, rfl⟩
        unfold dvs
        rw [if_pos h0']
        rfl
      · have h0' : ¬ b < 0 := fun q => h0 (decide_eq_true q)
        refine ⟨?_, rfl⟩
        unfold dvs
        rw [if_neg h0']
        rfl
    · rintro σ H' ⟨rfl, rfl⟩
      have hz : CDivZ t (dvs t b) := cdivZ (dvs_ne hb) (Nat.lt_of_le_of_lt (dvs_le hb) hB)
      have hz2 : CDivZ b (dvs t b) := cdivZ (dvs_ne hb) (Nat.lt_of_le_of_lt (dvs_le hb) hB)
      refine ⟨_, rfl, _, rfl, t, _, rfl, rfl, hz, _, rfl, p, T.f_Ratio, dx, [], rfl, hp, T.cl_Ratio, T.na_Ratio_top, (by show 0 < 1000; decide), ?_⟩
      refine ⟨_, rfl, _, rfl, b, _, rfl, rfl, hz2, _, rfl, p, T.f_Ratio, dx, _, rfl, upd_same, T.cl_Ratio, T.na_Ratio_bottom, (by show 1 < 1000; decide), ?_⟩
      refine k _ ⟨dx, Eq.trans upd_same ?_⟩ fun a o e ha => by rw [upd_ne ha, upd_ne ha]; exact e
      show some (HO.ins T.f_Ratio dx (if ("_top" : Str) = "_bottom" then _ else _)) = _
      rw [if_neg (by decide +kernel)]
      rfl
/-- the properties -/
def spTop (C : Addr) : Sp := fun vs H Q _ => ∃ (p : Addr) (t b : Int), vs = [.ref p] ∧ RatAt C H p t b ∧ Q (.int t) H
def spBottom (C : Addr) : Sp := fun vs H Q _ => ∃ (p : Addr) (t b : Int), vs = [.ref p] ∧ RatAt C H p t b ∧ Q (.int b) H
def sgnI (t : Int) : Int := if t < 0 then -1 else if 0 < t then 1 else 0
def spSign (C : Addr) : Sp := fun vs H Q _ => ∃ (p : Addr) (t b : Int), vs = [.ref p] ∧ RatAt C H p t b ∧ Q (.int (sgnI t)) H
theorem ok_top (T : Txt K mg) : FnOk P w K mg base CX0 1 T.f_Ratio_top T.d_Ratio_top ["self"] (spTop T.f_Ratio) := by
  refine T.F_Ratio_top.ok sc_Ratio_top (fun vs H Q E h => ?_) (fun cdv A outer s H vs Q E hr h => ?_)
  · obtain ⟨p, t, b, rfl, _⟩ := h
    rfl
  · obtain ⟨p, t, b, rfl, ⟨dx, hp⟩, k⟩ := h
    refine ⟨_, (pss_one (ps_ret (pe_fld (pv 0) rfl))), ?_⟩
    exact ⟨_, rfl, p, T.f_Ratio, dx, _, _, rfl, hp, T.cl_Ratio, T.na_Ratio_top, rf_top _ _, k⟩
theorem ok_bottom (T : Txt K mg) : FnOk P w K mg base CX0 1 T.f_Ratio_bottom T.d_Ratio_bottom ["self"] (spBottom T.f_Ratio) := by
  refine T.F_Ratio_bottom.ok sc_Ratio_bottom (fun vs H Q E h => ?_) (fun cdv A outer s H vs Q E hr h => ?_)
  · obtain ⟨p, t, b, rfl, _⟩ := h
    rfl
  · obtain ⟨p, t, b, rfl, ⟨dx, hp⟩, k⟩ := h
    refine ⟨_, (pss_one (ps_ret (pe_fld (pv 0) rfl))), ?_⟩
    exact ⟨_, rfl, p, T.f_Ratio, dx, _, _, rfl, hp, T.cl_Ratio, T.na_Ratio_bottom, rf_bottom _ _, k⟩
theorem ok_sign (T : Txt K mg) : FnOk P w K mg base CX0 1 T.f_Ratio_sign T.d_Ratio_sign ["self"] (spSign T.f_Ratio) := by
  refine T.F_Ratio_sign.ok sc_Ratio_sign (fun vs H Q E h => ?_) (fun cdv A outer s H vs Q E hr h => ?_)
  · obtain ⟨p, t, b, rfl, _⟩ := h
    rfl
  · obtain ⟨p, t, b, rfl, ⟨dx, hp⟩, k⟩ := h
    refine ⟨_, (pss_cons (ps_if (pt_cmpR op_lt (pe_fld (pv 0) rfl) pe_int (nomark _))
      (pss_one (ps_ret (pe_un un_neg pe_int)))
      pss_nil)
    (pss_one (ps_ret (pe_ifExp (pt_cmpR op_gt (pe_fld (pv 0) rfl) pe_int (nomark _)) pe_int pe_int)))), ?_⟩
    refine ⟨_, rfl, p, T.f_Ratio, dx, _, _, rfl, hp, T.cl_Ratio, T.na_Ratio_top, rf_top _ _, t, 0, rfl, rfl, _, rfl, ite2 (fun h0 => ?_) fun h0 => ?_⟩
    · refine ⟨1, rfl, ?_⟩
      have e : sgnI t = -1 := if_pos (of_decide_eq_true h0)
      rw [e] at k
      exact k
    · have h0' : ¬ t < 0 := fun q => h0 (decide_eq_true q)
      refine ⟨_, rfl, p, T.f_Ratio, dx, _, _, rfl, hp, T.cl_Ratio, T.na_Ratio_top, rf_top _ _, t, 0, rfl, rfl, _, rfl, ite2 (fun h1 => ?_) fun h1 => ?_⟩
      · have e : sgnI t = 1 := (if_neg h0').trans (if_pos (of_decide_eq_true h1))
        rw [e] at k
        exact k
      · have e : sgnI t = 0 := (if_neg h0').trans (if_neg fun q => h1 (decide_eq_true q))
        rw [e] at k
        exact k
end

/-! ### texts of numbers and of ratios -/
def dec (n : Int) : Str := Str.ofString (toString n)
theorem tl_dec (n : Int) : TL.tl (dec n) = if n < 0 then 45 :: TL.numL n.natAbs else TL.numL n.natAbs := by
  cases n with
  | ofNat m => exact TL.tl_num m
  | negSucc m =>
    rw [if_pos (Int.negSucc_lt_zero m)]
    show TL.tl (Str.ofString ("-" ++ Nat.repr (m + 1))) = 45 :: TL.numL (m + 1)
    have h := TL.tl_num (m + 1)
    rw [TL.tl_ofString] at h ⊢
    rw [String.toList_append, List.map_append]
    have h' : (Nat.repr (m + 1)).toList.map Char.toNat = TL.numL (m + 1) := h
    rw [h']
    rfl
theorem dec_nn {n : Int} (h : ¬ n < 0) : TL.tl (dec n) = TL.numL n.natAbs := (tl_dec n).trans (if_neg h)
theorem dec_neg {n : Int} (h : n < 0) : TL.tl (dec n) = 45 :: TL.numL n.natAbs := (tl_dec n).trans (if_pos h)
theorem dec_len {n : Int} {k : Nat} (hk : 0 < k) (h : n.natAbs < 10 ^ k) : (dec n).length ≤ k + 1 := by
  rw [TL.len_tl, tl_dec]
  have := TL.numL_len hk h
  split
  · rw [List.length_cons]; omega
  · omega
/-- a number as it may stand before or behind a stroke -/
def numOk (l : List Nat) : Bool := decide (1 ≤ l.length ∧ l.length ≤ 9) && (!(decide (l.head? = some 48) && !decide (l = [48])) && l.all fun c => decide (48 ≤ c ∧ c ≤ 57))
def stripL : List Nat → List Nat
  | [] => []
  | c :: r => if c = 45 then r else c :: r
def negL (l : List Nat) : Bool := decide (l.head? = some 45)
def frontL (l : List Nat) : List Nat := (stripL l).takeWhile fun c => c != 47
def backL (l : List Nat) : List Nat := match (stripL l).dropWhile fun c => c != 47 with
  | [] => [49]
  | _ :: b => b
def goodL (l : List Nat) : Bool := numOk (frontL l) && (numOk (backL l) && !decide (backL l = [48]))
def topL (l : List Nat) : Int := if negL l then -((NumText.digitsVal (frontL l) : Nat) : Int) else ((NumText.digitsVal (frontL l) : Nat) : Int)
def botL (l : List Nat) : Int := ((NumText.digitsVal (backL l) : Nat) : Int)
theorem numOk_len {l : List Nat} (h : numOk l = true) : 1 ≤ l.length ∧ l.length ≤ 9 := of_decide_eq_true (Bool.and_eq_true_iff.mp h).1
theorem numOk_all {l : List Nat} (h : numOk l = true) : NumText.AllDigits l := fun c hc => of_decide_eq_true (List.all_eq_true.mp (Bool.and_eq_true_iff.mp (Bool.and_eq_true_iff.mp h).2).2 c hc)
theorem fold_ge (l : List Nat) : ∀ a : Nat, a ≤ l.foldl (fun acc c => acc * 10 + (c - 48)) a := by
  induction l with
  | nil => intro a; exact Nat.le_refl _
  | cons c r ih =>
    intro a
    have := ih (a * 10 + (c - 48))
    show a ≤ r.foldl _ (a * 10 + (c - 48))
    omega
theorem fold_lt (l : List Nat) (h : NumText.AllDigits l) : ∀ a : Nat, l.foldl (fun acc c => acc * 10 + (c - 48)) a < (a + 1) * 10 ^ l.length := by
  induction l with
  | nil => intro a; simp
  | cons c r ih =>
    intro a
    have hc := h.head
    have h1 := ih h.tail (a * 10 + (c - 48))
    show r.foldl _ (a * 10 + (c - 48)) < (a + 1) * 10 ^ (r.length + 1)
    have h2 : (a * 10 + (c - 48) + 1) * 10 ^ r.length ≤ ((a + 1) * 10) * 10 ^ r.length := Nat.mul_le_mul_right _ (by omega)
    have h3 : ((a + 1) * 10) * 10 ^ r.length = (a + 1) * 10 ^ (r.length + 1) := by rw [Nat.pow_succ, Nat.mul_assoc, Nat.mul_comm 10]
    omega
theorem val_lt {l : List Nat} (h : numOk l = true) : NumText.digitsVal l < 10 ^ 9 := by
  have h1 := fold_lt l (numOk_all h) 0
  have h2 : (0 + 1) * 10 ^ l.length ≤ 10 ^ 9 := by
    rw [Nat.zero_add, Nat.one_mul]
    exact Nat.pow_le_pow_right (by decide) (numOk_len h).2
  exact Nat.lt_of_lt_of_le h1 h2
theorem val_ne {l : List Nat} (h : numOk l = true) (h0 : l ≠ [48]) : NumText.digitsVal l ≠ 0 := by
  cases l with
  | nil => exact absurd (numOk_len h).1 (by decide)
  | cons c r =>
    have hc := (numOk_all h).head
    have h1 : c ≠ 48 := fun e => by
      have h2 := (Bool.and_eq_true_iff.mp (Bool.and_eq_true_iff.mp h).2).1
      rw [e, decide_eq_true (show (48 :: r).head? = some 48 from rfl), Bool.true_and, Bool.not_not] at h2
      exact h0 (by rw [e]; exact of_decide_eq_true h2)
    have h3 := fold_ge r (0 * 10 + (c - 48))
    show r.foldl _ (0 * 10 + (c - 48)) ≠ 0
    omega
theorem bot_ne {l : List Nat} (h : goodL l = true) : botL l ≠ 0 := by
  have h1 := (Bool.and_eq_true_iff.mp (Bool.and_eq_true_iff.mp h).2)
  have h2 : backL l ≠ [48] := by simpa using h1.2
  have := val_ne h1.1 h2
  unfold botL
  omega
theorem bot_big {l : List Nat} (h : goodL l = true) : BIG (botL l) := by
  have h1 := (Bool.and_eq_true_iff.mp (Bool.and_eq_true_iff.mp h).2)
  have := val_lt h1.1
  show (botL l).natAbs < 2 ^ 8000
  unfold botL
  rw [Int.natAbs_natCast]
  exact Nat.lt_of_lt_of_le this (by decide +kernel)
theorem reads {l : List Nat} (h : numOk l = true) : PySem.intText? ⟨l.toArray⟩ = some ((NumText.digitsVal l : Nat) : Int) := by
  have hl := numOk_len h
  have := PySem.intText_digits (x := ⟨l.toArray⟩) (by show NumText.AllDigits l; exact numOk_all h) (by show l ≠ []; intro e; rw [e] at hl; exact absurd hl.1 (by decide)) (by show l.toArray.size ≤ 4300; rw [List.size_toArray]; omega)
  exact this
/-! the text's methods -/
def dash : Str := "-"
def stroke : Str := "/"
theorem tl_dash : TL.tl dash = [45] := by decide +kernel
theorem tl_stroke : TL.tl stroke = [47] := by decide +kernel
theorem dash_eq : dash = ⟨#[45]⟩ := TL.ext_tl tl_dash
theorem strip_eq (z : Str) : Txt.removeprefix z dash = ⟨(stripL (TL.tl z)).toArray⟩ := by
  rw [← TL.mk_tl z, dash_eq]
  generalize TL.tl z = l
  cases l with
  | nil => rfl
  | cons c r =>
    unfold Txt.removeprefix stripL
    by_cases h : c = 45
    · subst h
      have e : Builtin.Str.subAt ⟨(45 :: r).toArray⟩ ⟨#[45]⟩ 0 = true := by
        show ((45 :: r).toArray.extract 0 (0 + 1) == #[45]) = true
        simp
      rw [e, if_pos rfl]
      show (if ((⟨(45 :: r).toArray⟩ : Str).length - 1 == (⟨(45 :: r).toArray⟩ : Str).length) = true then _ else _) = _
      rw [if_neg (by
        show ¬ (((45 :: r).toArray.size - 1 == (45 :: r).toArray.size) = true)
        rw [List.size_toArray, List.length_cons]
        simp)]
      refine TL.ext_tl ?_
      show TL.tl (Builtin.Str.strSub ⟨(45 :: r).toArray⟩ 1 (⟨(45 :: r).toArray⟩ : Str).length) = _
      rw [TL.tl_strSub_end]
      rfl
    · have e : Builtin.Str.subAt ⟨(c :: r).toArray⟩ ⟨#[45]⟩ 0 = false := by
        show ((c :: r).toArray.extract 0 (0 + 1) == #[45]) = false
        simp [h]
      rw [e, if_neg Bool.false_ne_true]
      show (⟨(c :: r).toArray⟩ : Str) = _
      simp [h]
theorem starts_eq (z : Str) : Txt.startswith z dash = negL (TL.tl z) := by
  rw [← TL.mk_tl z, dash_eq]
  generalize TL.tl z = l
  unfold Txt.startswith negL
  cases l with
  | nil => rfl
  | cons c r =>
    have e1 : decide (0 + (⟨#[45]⟩ : Str).length ≤ (⟨(c :: r).toArray⟩ : Str).length) = true := by
      refine decide_eq_true ?_
      show 0 + 1 ≤ (c :: r).toArray.size
      rw [List.size_toArray, List.length_cons]
      omega
    rw [e1, Bool.true_and]
    show ((c :: r).toArray.extract 0 (0 + 1) == #[45]) = decide (some c = some 45)
    by_cases h : c = 45
    · subst h; simp
    · simp [h]
theorem span_none {l : List Nat} (h : 47 ∉ l) : l.takeWhile (fun c => c != 47) = l ∧ l.dropWhile (fun c => c != 47) = [] := by
  induction l with
  | nil => exact ⟨rfl, rfl⟩
  | cons c r ih =>
    have h1 : c ≠ 47 := fun e => h (by rw [e]; exact List.mem_cons_self)
    have := ih fun q => h (List.mem_cons_of_mem _ q)
    rw [List.takeWhile_cons, List.dropWhile_cons]
    simp [h1, this]
theorem span_at {f b : List Nat} (h : 47 ∉ f) : (f ++ 47 :: b).takeWhile (fun c => c != 47) = f ∧ (f ++ 47 :: b).dropWhile (fun c => c != 47) = 47 :: b := by
  induction f with
  | nil => exact ⟨by simp, by simp⟩
  | cons c r ih =>
    have h1 : c ≠ 47 := fun e => h (by rw [e]; exact List.mem_cons_self)
    have := ih fun q => h (List.mem_cons_of_mem _ q)
    rw [List.cons_append, List.takeWhile_cons, List.dropWhile_cons]
    simp [h1, this]
/-- the text cut at its first stroke -/
theorem cut_eq (l : List Nat) : (∃ b, l.dropWhile (fun c => c != 47) = 47 :: b ∧ Txt.partition ⟨l.toArray⟩ stroke = (⟨(l.takeWhile fun c => c != 47).toArray⟩, stroke, ⟨b.toArray⟩)) ∨
    (l.dropWhile (fun c => c != 47) = [] ∧ l.takeWhile (fun c => c != 47) = l ∧ Txt.partition ⟨l.toArray⟩ stroke = (⟨l.toArray⟩, Str.empty, Str.empty)) := by
  by_cases h : 47 ∈ l
  · obtain ⟨f, b, e, hf⟩ : ∃ f b, l = f ++ 47 :: b ∧ 47 ∉ f := by
      induction l with
      | nil => cases h
      | cons c r ih =>
        by_cases hc : c = 47
        · exact ⟨[], r, by rw [hc]; rfl, by simp⟩
        · rcases List.mem_cons.mp h with h | h
          · exact absurd h.symm hc
          · obtain ⟨f, b, e, hf⟩ := ih h
            refine ⟨c :: f, b, by rw [e]; rfl, fun q => ?_⟩
            rcases List.mem_cons.mp q with q | q
            · exact hc q.symm
            · exact hf q
    obtain ⟨e1, e2⟩ := span_at (b := b) hf
    left
    refine ⟨b, by rw [e, e2], ?_⟩
    rw [e, e1]
    have e3 : (⟨(f ++ 47 :: b).toArray⟩ : Str) = ⟨f.toArray⟩ ++ stroke ++ ⟨b.toArray⟩ := TL.ext_tl (by rw [TL.tl_append, TL.tl_append, tl_stroke, List.append_assoc]; rfl)
    rw [e3]
    exact TL.partition_app tl_stroke hf
  · obtain ⟨e1, e2⟩ := span_none h
    exact .inr ⟨e2, e1, TL.partition_none tl_stroke h⟩
/-! a ratio's text -/
def ratText (t b : Int) : Str := if b = 1 then dec t else dec t ++ stroke ++ dec b
theorem numL_head {n : Nat} (h : (TL.numL n).head? = some 48) : TL.numL n = [48] := by
  induction n using Nat.strongRecOn with
  | _ n ih =>
    by_cases hn : n < 10
    · rw [TL.numL_lt hn] at h ⊢
      have : 48 + n = 48 := Option.some.inj h
      rw [this]
    · rw [TL.numL_step (by omega)] at h
      have h1 : (TL.numL (n / 10)).head? = some 48 := by
        cases e : TL.numL (n / 10) with
        | nil => exact absurd e (TL.numL_ne _)
        | cons c r =>
          rw [e] at h
          exact h
      have h2 := ih (n / 10) (by omega) h1
      have h3 := congrArg NumText.digitsVal h2
      rw [TL.numL_val] at h3
      have h4 : NumText.digitsVal [48] = 0 := rfl
      omega
theorem numOk_num {n : Nat} (h : n < 10 ^ 9) : numOk (TL.numL n) = true := by
  unfold numOk
  have h1 : 1 ≤ (TL.numL n).length ∧ (TL.numL n).length ≤ 9 := by
    refine ⟨?_, TL.numL_len (by decide) h⟩
    cases e : TL.numL n with
    | nil => exact absurd e (TL.numL_ne n)
    | cons c r => exact Nat.succ_pos _
  have h2 : (TL.numL n).all (fun c => decide (48 ≤ c ∧ c ≤ 57)) = true := List.all_eq_true.mpr fun c hc => decide_eq_true (TL.numL_digits n c hc)
  rw [decide_eq_true h1, h2, Bool.true_and, Bool.and_true]
  by_cases h3 : (TL.numL n).head? = some 48
  · rw [decide_eq_true (numL_head h3), Bool.not_true, Bool.and_false, Bool.not_false]
  · rw [decide_eq_false h3, Bool.false_and, Bool.not_false]
theorem num_no47 (n : Nat) : 47 ∉ TL.numL n := TL.numL_free (.inl (by decide))
theorem strip_num {n : Nat} {r : List Nat} : stripL (TL.numL n ++ r) = TL.numL n ++ r ∧ negL (TL.numL n ++ r) = false := by
  cases e : TL.numL n with
  | nil => exact absurd e (TL.numL_ne n)
  | cons c q =>
    have hc : c ≠ 45 := fun z => TL.numL_free (n := n) (s := 45) (.inl (by decide)) (by rw [e, z]; exact List.mem_cons_self)
    refine ⟨if_neg hc, decide_eq_false fun z => hc (Option.some.inj z)⟩
/-- the text of a ratio with small numbers is read back -/
theorem text_back {t b : Int} (ht : t.natAbs < 10 ^ 9) (hb0 : 0 < b) (hb : b.natAbs < 10 ^ 9) : goodL (TL.tl (ratText t b)) = true ∧ topL (TL.tl (ratText t b)) = t ∧ botL (TL.tl (ratText t b)) = b := by
  have key : ∀ r : List Nat, TL.tl (ratText t b) = TL.tl (dec t) ++ r → stripL (TL.tl (ratText t b)) = TL.numL t.natAbs ++ r ∧ negL (TL.tl (ratText t b)) = decide (t < 0) := by
    intro r e
    rw [e]
    by_cases h : t < 0
    · rw [dec_neg h, decide_eq_true h]
      exact ⟨rfl, rfl⟩
    · rw [dec_nn h, decide_eq_false h]
      exact strip_num
  have fin : frontL (TL.tl (ratText t b)) = TL.numL t.natAbs → backL (TL.tl (ratText t b)) = TL.numL b.natAbs → negL (TL.tl (ratText t b)) = decide (t < 0) → goodL (TL.tl (ratText t b)) = true ∧ topL (TL.tl (ratText t b)) = t ∧ botL (TL.tl (ratText t b)) = b := by
    intro e1 e2 e3
    refine ⟨?_, ?_, ?_⟩
    · unfold goodL
      rw [e1, e2, numOk_num ht, numOk_num hb, Bool.true_and, Bool.true_and]
      have : TL.numL b.natAbs ≠ [48] := fun q => by
        have := congrArg NumText.digitsVal q
        rw [TL.numL_val] at this
        have h4 : NumText.digitsVal [48] = 0 := rfl
        omega
      rw [decide_eq_false this, Bool.not_false]
    · unfold topL
      rw [e1, e3, TL.numL_val]
      by_cases h : t < 0
      · rw [decide_eq_true h, if_pos rfl]; omega
      · rw [decide_eq_false h, if_neg Bool.false_ne_true]; omega
    · unfold botL
      rw [e2, TL.numL_val]
      omega
  by_cases h1 : b = 1
  · have e : TL.tl (ratText t b) = TL.tl (dec t) ++ [] := by
      unfold ratText
      rw [if_pos h1, List.append_nil]
    obtain ⟨k1, k2⟩ := key [] e
    rw [List.append_nil] at k1
    obtain ⟨s1, s2⟩ := span_none (num_no47 t.natAbs)
    refine fin ?_ ?_ k2
    · unfold frontL
      rw [k1, s1]
    · unfold backL
      rw [k1, s2, h1]
      rfl
  · have e : TL.tl (ratText t b) = TL.tl (dec t) ++ (47 :: TL.numL b.natAbs) := by
      unfold ratText
      rw [if_neg h1, TL.tl_append, TL.tl_append, tl_stroke, dec_nn (n := b) (by omega), List.append_assoc]
      rfl
    obtain ⟨k1, k2⟩ := key _ e
    obtain ⟨s1, s2⟩ := span_at (b := TL.numL b.natAbs) (num_no47 t.natAbs)
    refine fin ?_ ?_ k2
    · unfold frontL
      rw [k1, s1]
    · unfold backL
      rw [k1, s2]
theorem ratText_len {t b : Int} (ht : t.natAbs < 10 ^ 64) (hb : b.natAbs < 10 ^ 64) : (ratText t b).length ≤ 200 := by
  have h1 := dec_len (by decide) ht
  have h2 := dec_len (by decide) hb
  unfold ratText
  split
  · omega
  · rw [TL.len_tl, TL.tl_append, TL.tl_append, tl_stroke, List.length_append, List.length_append, ← TL.len_tl, ← TL.len_tl]
    simp only [List.length_cons, List.length_nil]
    omega

/-! ### the functions on ratios -/
section
variable {P : Program} {w : World} {K : PySem.W.Frag} {mg : Str → Option Value} {base : Heap}
theorem made_rat {C : Addr} {H : Hp} {t b : Int} {Q : VK} {E : XK} (hb : b ≠ 0) (hB : BIG b) (k : ∀ x H', H x = none → Same H H' → RatAt C H' x (lowT t b) (lowB t b) → Q (.ref x) H') :
    ∀ x dx, H x = none → H dx = none → dx ≠ x → spInit C [.ref x, .int t, .int b] (upd (upd H dx (.own x)) x (.ins C dx [])) (fun v H2 => v = .non ∧ Q (.ref x) H2) E :=
  fun x dx nx nd _ => ⟨x, dx, t, b, rfl, upd_same, hb, hB, fun H' r st => ⟨rfl, k x H' nx (Same.made nx nd st) r⟩⟩
theorem low_one (t : Int) : lowT t 1 = t ∧ lowB t 1 = 1 := by
  have e : dvs t 1 = 1 := by
    unfold dvs
    rw [if_neg (by decide)]
    simp
  unfold lowT lowB
  rw [e]
  exact ⟨by rw [Int.fdiv_one], by decide⟩
theorem big_one : BIG 1 := by show (1 : Nat) < 2 ^ 8000; decide +kernel
theorem tyR {C : Addr} {H : Hp} {p : Addr} {t b : Int} (ic : C8.InsC K C) (r : RatAt C H p t b) : TyX K H (.ref p) (.ref C) := by
  obtain ⟨dx, hp⟩ := r
  exact .base (.ins hp ic.cl ic.ha ic.hn ic.htk ic.hm)
/-- as_ratio -/
def spAs (C : Addr) : Sp := fun vs H Q _ => (∃ t : Int, vs = [.int t] ∧ ∀ p H', H p = none → Same H H' → RatAt C H' p t 1 → Q (.ref p) H') ∨ (∃ (p : Addr) (t b : Int), vs = [.ref p] ∧ RatAt C H p t b ∧ Q (.ref p) H)
theorem ok_as (T : Txt K mg) : FnOk P w K mg base CX0 3 T.f_as_ratio T.d_as_ratio ["value"] (spAs T.f_Ratio) := by
  have G_Ratio_init : FnOk P w K mg base CX0 1 T.f_Ratio_init T.d_Ratio_init ["self", "top", "bottom"] (spInit T.f_Ratio) := ok_init T
  refine T.F_as_ratio.ok sc_as_ratio (fun vs H Q E h => ?_) (fun cdv A outer s H vs Q E hr h => ?_)
  · rcases h with ⟨t, rfl, _⟩ | ⟨p, t, b, rfl, _⟩ <;> rfl
  · refine ⟨_, (pss_cons (ps_if (pt_val (pe_callB call_isi (by rfl) T.n_isinstance (by decide +kernel) (pa_cons (pv 0) (pa_cons (pe_glob (v := .ref T.f_Ratio) rfl T.m_Ratio rfl) pa_nil))))
      (pss_one (ps_ret (pv 0)))
      pss_nil)
    (pss_one (ps_ret (pe_make T.mk_Ratio G_Ratio_init (hr.mono (by decide)) rfl T.m_Ratio T.b1_Ratio_init T.v1_Ratio_init pass0 (pa_cons (pv 0) pa_nil))))), ?_⟩
    rcases h with ⟨t, rfl, k⟩ | ⟨p, t, b, rfl, r, k⟩
    · refine ⟨_, rfl, .int t, .ref T.f_Ratio, .type "int", .ref T.f_Ratio, false, rfl, .own _, .base (.int _), T.ki_Ratio_int, false, rfl, iteF ?_⟩
      refine ⟨_, rfl, made_rat (by decide) big_one fun x H' nx sm r => ?_⟩
      rw [(low_one t).1, (low_one t).2] at r
      exact k x H' nx sm r
    · exact ⟨_, rfl, .ref p, .ref T.f_Ratio, .ref T.f_Ratio, .ref T.f_Ratio, true, rfl, .own _, tyR T.ic_Ratio r, kit_self, true, rfl, iteT ⟨_, rfl, k⟩⟩
/-- numeral of a number of at most 64 digits -/
def spNumeral : Sp := fun vs H Q _ => ∃ n : Int, vs = [.int n] ∧ n.natAbs < 10 ^ 64 ∧ ∀ H', Same H H' → Q (.str (dec n)) H'
theorem log_small {n : Int} (h : n.natAbs < 10 ^ 64) : n.natAbs.log2 < 1920 := Nat.lt_of_lt_of_le (PySem.Flt.log2_lt_of (k := 300) (by decide) (Nat.lt_of_lt_of_le h (by decide +kernel))) (by decide)
theorem abs_of (n : Int) : (if n < 0 then -n else n) = ((n.natAbs : Nat) : Int) := by split <;> omega
theorem join_two {a b : Str} : TL.tl (Txt.join ⟨#[]⟩ [a, b]) = TL.tl a ++ TL.tl b := by
  rw [TL.join_eq]
  show TL.tl (a ++ ⟨#[]⟩ ++ b) = _
  rw [TL.tl_append, TL.tl_append]
  simp [TL.tl]
theorem ok_numeral (T : Txt K mg) : FnOk P w K mg base CX0 1 T.f_numeral T.d_numeral ["number"] spNumeral := by
  refine T.F_numeral.ok sc_numeral (fun vs H Q E h => ?_) (fun cdv A outer s H vs Q E hr h => ?_)
  · obtain ⟨n, rfl, _⟩ := h
    rfl
  · obtain ⟨n, rfl, hn, k⟩ := h
    refine ⟨_, (pss_cons (ps_set (i := 1) sc_numeral.nd rfl (Or.inl rfl) (pe_callB call_abs (by rfl) T.n_abs (by decide +kernel) (pa_cons (pv 0) pa_nil)))
    (pss_cons (ps_set (i := 2) sc_numeral.nd rfl (Or.inl rfl) (pe_lst pa_nil))
    (C8.pss_cut (ps_while PassesOwn.never (pt_cmpR op_ge (pv 1) (pe_glob (v := V.int 10000000000000000000000000000000000000000000000000000000000000000) rfl T.c_PIECE ⟨_, rfl⟩) (nomark _))
      (pss_cons (ps_asg (pe_callB call_divmodW (by rfl) T.n_divmod (by decide +kernel) (pa_cons (pv 1) (pa_cons (pe_glob (v := V.int 10000000000000000000000000000000000000000000000000000000000000000) rfl T.c_PIECE ⟨_, rfl⟩) pa_nil))) (pg_tup rfl (pgs_cons (pg_name (i := 1) sc_numeral.nd rfl (Or.inl rfl)) (pgs_cons (pg_name (i := 3) sc_numeral.nd rfl (Or.inl rfl)) pgs_nil))))
    (pss_one (ps_expr (pe_bm PySem.F.plainAttrs_list PySem.F.slot_list_append PySem.F.type_list_append mt_append (pv 2) (pa_cons (pe_bm PySem.F.plainAttrs_str PySem.F.slot_str_zfill PySem.F.type_str_zfill mt_zfill (pe_callTy call_str_int (by rfl) T.n_str (by decide +kernel) (pa_cons (pv 3) pa_nil)) (pa_cons (pe_glob (v := V.int 64) rfl T.c_PIECE_DIGITS ⟨_, rfl⟩) pa_nil)) pa_nil))))))
    (pss_cons (ps_expr (pe_bm PySem.F.plainAttrs_list PySem.F.slot_list_append PySem.F.type_list_append mt_append (pv 2) (pa_cons (pe_callTy call_str_int (by rfl) T.n_str (by decide +kernel) (pa_cons (pv 1) pa_nil)) pa_nil)))
    (C8.pss_cut (ps_if (pt_cmpR op_lt (pv 0) pe_int (nomark _))
      (pss_one (ps_expr (pe_bm PySem.F.plainAttrs_list PySem.F.slot_list_append PySem.F.type_list_append mt_append (pv 2) (pa_cons pe_str pa_nil))))
      pss_nil)
    (pss_one (ps_ret (pe_join pe_str (pe_revL (pv 2)))))))))), ?_⟩
    refine ⟨_, rfl, n, rfl, ?_⟩
    rw [abs_of n]
    refine ⟨Nat.zero_le _, fun l hl => ?_⟩
    have sl : Same H (upd H l (.lst [])) := same_upd hl
    have hlt : ¬ decide ((10000000000000000000000000000000000000000000000000000000000000000 : Int) ≤ ((n.natAbs : Nat) : Int)) = true := fun q => by
      have q' : (10000000000000000000000000000000000000000000000000000000000000000 : Int) ≤ ((n.natAbs : Nat) : Int) := of_decide_eq_true q
      have : (n.natAbs : Int) < 10 ^ 64 := by exact_mod_cast hn
      have e : (10 : Int) ^ 64 = 10000000000000000000000000000000000000000000000000000000000000000 := by decide +kernel
      omega
    refine ⟨fun σ H' => σ = [some (.int n), some (.int ((n.natAbs : Nat) : Int)), some (.ref l), none] ∧ H' = upd H l (.lst []), ?_, ?_⟩
    · refine ⟨fun m σ H' => σ = [some (.int n), some (.int ((n.natAbs : Nat) : Int)), some (.ref l), none] ∧ H' = upd H l (.lst []), ⟨0, rfl, rfl⟩, ?_⟩
      rintro m σ H' ⟨rfl, rfl⟩
      refine ⟨_, rfl, _, _, rfl, rfl, _, rfl, ?_⟩
      rw [Bool.eq_false_iff.mpr hlt]
      exact iteF ⟨rfl, rfl⟩
    rintro σ H' ⟨rfl, rfl⟩
    have hl2 : (((n.natAbs : Nat) : Int)).natAbs.log2 < 1920 := by rw [Int.natAbs_natCast]; exact log_small hn
    refine ⟨_, rfl, .inl ⟨rfl, _, SqL.of upd_same⟩, _, rfl, _, rfl, hl2, l, [], _, rfl, rfl, upd_same, by decide, ?_⟩
    rw [upd_upd]
    refine ⟨fun σ H' => σ = [some (.int n), some (.int ((n.natAbs : Nat) : Int)), some (.ref l), none] ∧ H' = upd H l (.lst (if n < 0 then [.str (dec ((n.natAbs : Nat) : Int)), .str dash] else [.str (dec ((n.natAbs : Nat) : Int))])), ?_, ?_⟩
    · refine ⟨_, rfl, n, 0, rfl, rfl, _, rfl, ite2 (fun h0 => ?_) fun h0 => ?_⟩
      · have h0' : n < 0 := of_decide_eq_true h0
        refine ⟨_, rfl, .inl ⟨rfl, _, SqL.of upd_same⟩, l, _, _, rfl, rfl, upd_same, (by show 1 < sizeLine; decide), rfl, ?_⟩
        rw [upd_upd, if_pos h0']
        rfl
      · have h0' : ¬ n < 0 := fun q => h0 (decide_eq_true q)
        refine ⟨rfl, ?_⟩
        rw [if_neg h0']
        rfl
    rintro σ H' ⟨rfl, rfl⟩
    have hd : (dec ((n.natAbs : Nat) : Int)).length ≤ 65 := dec_len (by decide) (by rw [Int.natAbs_natCast]; exact hn)
    have en : ¬ ((n.natAbs : Nat) : Int) < 0 := by omega
    by_cases h0 : n < 0
    · rw [if_pos h0]
      refine ⟨⟨_, rfl⟩, _, rfl, l, _, rfl, SqL.of upd_same, fun p hp => ?_⟩
      refine ⟨⟨#[]⟩, p, [dash, dec ((n.natAbs : Nat) : Int)], rfl, rfl, .inl (SqL.of upd_same), ?_, ?_⟩
      · have e1 : dash.length = 1 := by decide +kernel
        show (dash.length + ((dec ((n.natAbs : Nat) : Int)).length + 0)) + 2 * 0 ≤ 16777216
        omega
      · have e : Txt.join ⟨#[]⟩ [dash, dec ((n.natAbs : Nat) : Int)] = dec n := TL.ext_tl (by rw [join_two, tl_dash, dec_nn en, dec_neg h0, Int.natAbs_natCast]; rfl)
        rw [e]
        exact k _ (fun a o q => by rw [upd_ne (ne_of_none (show (upd H l _) a = some o by rw [upd_ne (ne_of_none q hl)]; exact q) hp), upd_ne (ne_of_none q hl)]; exact q)
    · rw [if_neg h0]
      refine ⟨⟨_, rfl⟩, _, rfl, l, _, rfl, SqL.of upd_same, fun p hp => ?_⟩
      refine ⟨⟨#[]⟩, p, [dec ((n.natAbs : Nat) : Int)], rfl, rfl, .inl (SqL.of upd_same), ?_, ?_⟩
      · show ((dec ((n.natAbs : Nat) : Int)).length + 0) + 1 * 0 ≤ 16777216
        omega
      · have e : Txt.join ⟨#[]⟩ [dec ((n.natAbs : Nat) : Int)] = dec n := TL.ext_tl (by
          rw [TL.join_eq]
          show TL.tl (dec ((n.natAbs : Nat) : Int)) = _
          rw [dec_nn en, dec_nn h0, Int.natAbs_natCast])
        rw [e]
        exact k _ (fun a o q => by rw [upd_ne (ne_of_none (show (upd H l _) a = some o by rw [upd_ne (ne_of_none q hl)]; exact q) hp), upd_ne (ne_of_none q hl)]; exact q)
/-- str of a ratio -/
def spStr (C : Addr) : Sp := fun vs H Q _ => ∃ (p : Addr) (t b : Int), vs = [.ref p] ∧ RatAt C H p t b ∧ t.natAbs < 10 ^ 64 ∧ b.natAbs < 10 ^ 64 ∧ ∀ H', Same H H' → Q (.str (ratText t b)) H'
theorem ok_str (T : Txt K mg) : FnOk P w K mg base CX0 2 T.f_Ratio_str T.d_Ratio_str ["self"] (spStr T.f_Ratio) := by
  have G_numeral : FnOk P w K mg base CX0 1 T.f_numeral T.d_numeral ["number"] spNumeral := ok_numeral T
  refine T.F_Ratio_str.ok sc_Ratio_str (fun vs H Q E h => ?_) (fun cdv A outer s H vs Q E hr h => ?_)
  · obtain ⟨p, t, b, rfl, _⟩ := h
    rfl
  · obtain ⟨p, t, b, rfl, ⟨dx, hp⟩, ht, hb, k⟩ := h
    refine ⟨_, (pss_cons (ps_if (pt_cmpR op_eq (pe_fld (pv 0) rfl) pe_int (nomark _))
      (pss_one (ps_ret (pe_joined1 (pe_fmt (pe_call G_numeral (hr.mono (by decide)) rfl T.m_numeral T.F_numeral.kp T.b_numeral .nil pass0 (pa_cons (pe_fld (pv 0) rfl) pa_nil))))))
      pss_nil)
    (pss_one (ps_ret (pe_joined (PJ.cons (pe_fmt (pe_call G_numeral (hr.mono (by decide)) rfl T.m_numeral T.F_numeral.kp T.b_numeral .nil pass0 (pa_cons (pe_fld (pv 0) rfl) pa_nil))) (PJ.cons pe_str (PJ.cons (pe_fmt (pe_call G_numeral (hr.mono (by decide)) rfl T.m_numeral T.F_numeral.kp T.b_numeral .nil pass0 (pa_cons (pe_fld (pv 0) rfl) pa_nil))) PJ.nil))))))), ?_⟩
    have l1 := dec_len (by decide) ht
    have l2 := dec_len (by decide) hb
    refine ⟨_, rfl, p, T.f_Ratio, dx, _, _, rfl, hp, T.cl_Ratio, T.na_Ratio_bottom, rf_bottom _ _, rfl, _, rfl, ite2 (fun h1 => ?_) fun h1 => ?_⟩
    · have h1' : b = 1 := by
        have := of_decide_eq_true h1
        injection this
      refine ⟨_, rfl, p, T.f_Ratio, dx, _, _, rfl, hp, T.cl_Ratio, T.na_Ratio_top, rf_top _ _, t, rfl, ht, fun H1 s1 => .inl ⟨_, rfl, Nat.le_trans l1 (by decide), ?_⟩⟩
      have e : ratText t b = dec t := if_pos h1'
      rw [← e]
      exact k _ s1
    · have h1' : b ≠ 1 := fun q => h1 (decide_eq_true (by rw [q]))
      refine ⟨_, rfl, p, T.f_Ratio, dx, _, _, rfl, hp, T.cl_Ratio, T.na_Ratio_top, rf_top _ _, t, rfl, ht, fun H1 s1 => .inl ⟨_, rfl, Nat.le_trans l1 (by decide), _, rfl, ?_, ?_⟩⟩
      · rw [Str.empty_append]
        exact Nat.le_trans l1 (by decide)
      refine ⟨_, rfl, ?_, ?_⟩
      · rw [Str.empty_append, Str.length_append]
        have e1 : stroke.length = 1 := by decide +kernel
        show (dec t).length + stroke.length ≤ _
        exact Nat.le_trans (show _ ≤ 100 by omega) (by decide)
      refine ⟨_, rfl, p, T.f_Ratio, dx, _, _, rfl, s1 _ _ hp, T.cl_Ratio, T.na_Ratio_bottom, rf_bottom _ _, b, rfl, hb, fun H2 s2 => .inl ⟨_, rfl, Nat.le_trans l2 (by decide), _, rfl, ?_, ?_⟩⟩
      · rw [Str.empty_append, Str.length_append, Str.length_append]
        have e1 : stroke.length = 1 := by decide +kernel
        show (dec t).length + stroke.length + (dec b).length ≤ _
        exact Nat.le_trans (show _ ≤ 200 by omega) (by decide)
      · have e : ratText t b = Str.empty ++ dec t ++ stroke ++ dec b := by
          unfold ratText
          rw [if_neg h1', Str.empty_append]
        have := k _ (s1.trans s2)
        rw [e] at this
        exact this
end

section
variable {P : Program} {w : World} {K : PySem.W.Frag} {mg : Str → Option Value} {base : Heap}
/-- _law_low -/
def spLow : Sp := fun vs H Q _ => ∃ t b : Int, vs = [.int t, .int b] ∧ b ≠ 0 ∧ BIG b ∧ ∀ p H', H p = none → Same H H' → H' p = some (.tup [.int (lowT t b), .int (lowB t b)]) → Q (.ref p) H'
theorem ok_low (T : Txt K mg) : FnOk P w K mg base CX0 1 T.f_low T.d_low ["_law_up", "_law_down"] spLow := by
  refine T.F_low.ok sc_low (fun vs H Q E h => ?_) (fun cdv A outer s H vs Q E hr h => ?_)
  · obtain ⟨t, b, rfl, _⟩ := h
    rfl
  · obtain ⟨t, b, rfl, hb, hB, k⟩ := h
    refine ⟨_, (pss_cons (ps_set (i := 2) sc_low.nd rfl (Or.inl rfl) (pe_callB call_abs (by rfl) T.n_abs (by decide +kernel) (pa_cons (pv 0) pa_nil)))
    (pss_cons (ps_set (i := 3) sc_low.nd rfl (Or.inl rfl) (pe_callB call_abs (by rfl) T.n_abs (by decide +kernel) (pa_cons (pv 1) pa_nil)))
    (C8.pss_cut (ps_while PassesOwn.never (pt_cmpR op_ne (pv 3) pe_int (nomark _))
      (pss_one (ps_par (i := 2) (j := 3) (by rfl) sc_low.nd rfl rfl (by decide) rfl rfl (pa_cons (pv 3) (pa_cons (pe_op op_mod (pe_callTy call_int1 (by rfl) T.n_int (by decide +kernel) (pa_cons (pv 2) pa_nil)) (pv 3)) pa_nil)) (by rfl))))
    (C8.pss_cut (ps_if (pt_cmpR op_lt (pv 1) pe_int (nomark _))
      (pss_one (ps_set (i := 2) sc_low.nd rfl (Or.inl rfl) (pe_un un_neg (pv 2))))
      pss_nil)
    (pss_one (ps_ret (pe_tup (pa_cons (pe_op op_fdivZ (pv 0) (pv 2)) (pa_cons (pe_op op_fdivZ (pv 1) (pv 2)) pa_nil))))))))), ?_⟩
    refine ⟨_, rfl, t, rfl, ?_⟩
    rw [abs_of]
    refine ⟨_, rfl, b, rfl, ?_⟩
    rw [abs_of]
    refine ⟨fun σ H' => σ = [some (.int t), some (.int b), some (.int ((Nat.gcd t.natAbs b.natAbs : Nat) : Int)), some (.int 0)] ∧ H' = H, ?_, ?_⟩
    · refine ⟨fun m σ H' => ∃ x y : Nat, σ = [some (.int t), some (.int b), some (.int (x : Int)), some (.int (y : Int))] ∧ H' = H ∧ Nat.gcd x y = Nat.gcd t.natAbs b.natAbs ∧ y = m, ⟨_, _, _, rfl, rfl, rfl, rfl⟩, ?_⟩
      rintro m σ H' ⟨x, y, rfl, rfl, hg, rfl⟩
      refine ⟨_, rfl, rfl, _, rfl, ?_⟩
      by_cases hy : y = 0
      · subst hy
        refine iteF ⟨?_, rfl⟩
        rw [Nat.gcd_zero_right] at hg
        rw [hg]
        rfl
      · have ey : (!decide (V.int (y : Int) = V.int 0)) = true := by
          rw [Bool.not_eq_true', decide_eq_false_iff_not]
          intro q
          injection q with q
          omega
        rw [ey]
        refine iteT ⟨fun σ' H2 => ∃ x' y' : Nat, σ' = [some (.int t), some (.int b), some (.int (x' : Int)), some (.int (y' : Int))] ∧ H2 = H' ∧ Nat.gcd x' y' = Nat.gcd t.natAbs b.natAbs ∧ y' < y, fun σ' H2 ⟨x', y', e1, e2, e3, e4⟩ => ⟨y', e4, x', y', e1, e2, e3, rfl⟩, ?_⟩
        refine ⟨_, rfl, _, rfl, .inl ⟨_, rfl, _, rfl, (x : Int), (y : Int), rfl, rfl, (by show (0 : Int) < (y : Int); omega), _, _, rfl, y, x % y, ?_, rfl, ?_, Nat.mod_lt _ (by omega)⟩⟩
        · rfl
        · rw [← hg, Nat.gcd_comm x y, Nat.gcd_rec y x, Nat.gcd_comm]
    rintro σ H' ⟨rfl, rfl⟩
    refine ⟨fun σ H2 => σ = [some (.int t), some (.int b), some (.int (dvs t b)), some (.int 0)] ∧ H2 = H', ?_, ?_⟩
    · refine ⟨_, rfl, b, 0, rfl, rfl, _, rfl, ite2 (fun h0 => ?_) fun h0 => ?_⟩
      · refine ⟨_, rfl, _, rfl, ?_, rfl⟩
        unfold dvs
        rw [if_pos (of_decide_eq_true h0)]
        rfl
      · refine ⟨?_, rfl⟩
        unfold dvs
        rw [if_neg fun q => h0 (decide_eq_true q)]
    rintro σ H2 ⟨rfl, rfl⟩
    have hz : ∀ i : Int, CDivZ i (dvs t b) := fun i => cdivZ (dvs_ne hb) (Nat.lt_of_le_of_lt (dvs_le hb) hB)
    exact ⟨_, rfl, _, rfl, t, _, rfl, rfl, hz _, _, rfl, _, rfl, b, _, rfl, rfl, hz _, (by show 2 ≤ sizeLine; decide), fun p hp => k p _ hp (same_upd hp) upd_same⟩
end

section
variable {P : Program} {w : World} {K : PySem.W.Frag} {mg : Str → Option Value} {base : Heap}
def dat2 (t b : Int) : PyData := .tuple [.int t, .int b]
theorem dp2 {H : Hp} {q : Addr} {t b : Int} (h : H q = some (.tup [.int t, .int b])) : Dp K H (.ref q) (dat2 t b) := .tup (SqT.of h) (.cons (.int _) (.cons (.int _) .nil))
theorem sh2 (t b : Int) : SeqAt.shaped (dat2 t b) = true := by simp [dat2, SeqAt.shaped, PyData.canLay0, PyData.canLayAll0, PyData.depth, PyData.depthAll]
theorem eq2 (t b : Int) : PyData.eqv (dat2 t b) (dat2 t b) = true := by simp [dat2, PyData.eqv, PyData.eqvAll]
/-- _law_is, where it holds -/
def spIs (C : Addr) : Sp := fun vs H Q _ => ∃ (p q : Addr) (t b : Int), vs = [.ref p, .ref q] ∧ RatAt C H p t b ∧ H q = some (.tup [.int t, .int b]) ∧ ∀ H', Same H H' → Q (.bl true) H'
theorem ok_is (T : Txt K mg) : FnOk P w K mg base CX0 3 T.f_is T.d_is ["_law_actual", "_law_pair"] (spIs T.f_Ratio) := by
  have G_Ratio_top : FnOk P w K mg base CX0 1 T.f_Ratio_top T.d_Ratio_top ["self"] (spTop T.f_Ratio) := ok_top T
  have G_Ratio_bottom : FnOk P w K mg base CX0 1 T.f_Ratio_bottom T.d_Ratio_bottom ["self"] (spBottom T.f_Ratio) := ok_bottom T
  refine T.F_is.ok sc_is (fun vs H Q E h => ?_) (fun cdv A outer s H vs Q E hr h => ?_)
  · obtain ⟨p, q, t, b, rfl, _⟩ := h
    rfl
  · obtain ⟨p, q, t, b, rfl, r, hq, k⟩ := h
    obtain ⟨dx, hp⟩ := id r
    refine ⟨_, (pss_cons (ps_if (PW.pt (pw_or (pt_not (pt_val (pe_callB call_isi (by rfl) T.n_isinstance (by decide +kernel) (pa_cons (pv 0) (pa_cons (pe_glob (v := .ref T.f_Ratio) rfl T.m_Ratio rfl) pa_nil))))) (pw_or (pt_not (pt_val (pe_callB call_isi (by rfl) T.n_isinstance (by decide +kernel) (pa_cons (pe_prop (pv 0) T.cl_Ratio T.p_Ratio_top G_Ratio_top (hr.mono (by decide)) T.b_Ratio_top .nil pass0 rfl) (pa_cons (pe_bltn (v := .ty "int") (u := .type "int") (by rfl) T.n_int (by decide +kernel) rfl) pa_nil))))) (pw_or1 (pt_not (pt_val (pe_callB call_isi (by rfl) T.n_isinstance (by decide +kernel) (pa_cons (pe_prop (pv 0) T.cl_Ratio T.p_Ratio_bottom G_Ratio_bottom (hr.mono (by decide)) T.b_Ratio_bottom .nil pass0 rfl) (pa_cons (pe_bltn (v := .ty "int") (u := .type "int") (by rfl) T.n_int (by decide +kernel) rfl) pa_nil)))))))))
      (pss_one (ps_ret pe_bl))
      pss_nil)
    (pss_one (ps_ret (pe_cmpR (op_eqD hr.units) (pe_tup (pa_cons (pe_prop (pv 0) T.cl_Ratio T.p_Ratio_top G_Ratio_top (hr.mono (by decide)) T.b_Ratio_top .nil pass0 rfl) (pa_cons (pe_prop (pv 0) T.cl_Ratio T.p_Ratio_bottom G_Ratio_bottom (hr.mono (by decide)) T.b_Ratio_bottom .nil pass0 rfl) pa_nil))) (pv 1) (nomark _))))), ?_⟩
    refine ⟨_, rfl, .ref p, .ref T.f_Ratio, .ref T.f_Ratio, .ref T.f_Ratio, true, rfl, .own _, tyR T.ic_Ratio r, kit_self, true, rfl, iteF ?_⟩
    refine ⟨_, rfl, p, dx, _, rfl, hp, p, t, b, rfl, r, .int t, .ty "int", .type "int", .type "int", true, rfl, .ty _, .base (.int _), kit_ty (by decide +kernel), true, rfl, iteF ?_⟩
    refine ⟨_, rfl, p, dx, _, rfl, hp, p, t, b, rfl, r, .int b, .ty "int", .type "int", .type "int", true, rfl, .ty _, .base (.int _), kit_ty (by decide +kernel), true, rfl, iteF ?_⟩
    refine ⟨_, rfl, p, dx, _, rfl, hp, p, t, b, rfl, r, _, rfl, p, dx, _, rfl, hp, p, t, b, rfl, r, (by show 2 ≤ sizeLine; decide), fun o ho => ?_⟩
    refine ⟨_, rfl, dat2 t b, dat2 t b, dp2 upd_same, dp2 (same_upd ho _ _ hq), sh2 t b, sh2 t b, ?_⟩
    rw [eq2]
    exact k _ (same_upd ho)
end

section
variable {P : Program} {w : World} {K : PySem.W.Frag} {mg : Str → Option Value} {base : Heap}
/-- _law_text -/
def spText : Sp := fun vs H Q _ => ∃ (q : Addr) (t b : Int), vs = [.ref q] ∧ H q = some (.tup [.int t, .int b]) ∧ t.natAbs < 10 ^ 64 ∧ b.natAbs < 10 ^ 64 ∧ Q (.str (ratText t b)) H
theorem ok_text (T : Txt K mg) : FnOk P w K mg base CX0 1 T.f_text T.d_text ["_law_pair"] spText := by
  refine T.F_text.ok sc_text (fun vs H Q E h => ?_) (fun cdv A outer s H vs Q E hr h => ?_)
  · obtain ⟨q, t, b, rfl, _⟩ := h
    rfl
  · obtain ⟨q, t, b, rfl, hq, ht, hb, k⟩ := h
    refine ⟨_, (pss_cons (ps_if (pt_cmpR op_eq (pe_ix ix_tup (pv 0) pe_int (fun _ _ => rfl)) pe_int (nomark _))
      (pss_one (ps_ret (pe_callTy call_str_int (by rfl) T.n_str (by decide +kernel) (pa_cons (pe_ix ix_tup (pv 0) pe_int (fun _ _ => rfl)) pa_nil))))
      pss_nil)
    (pss_one (ps_ret (pe_op op_add_str (pe_op op_add_str (pe_callTy call_str_int (by rfl) T.n_str (by decide +kernel) (pa_cons (pe_ix ix_tup (pv 0) pe_int (fun _ _ => rfl)) pa_nil)) pe_str) (pe_callTy call_str_int (by rfl) T.n_str (by decide +kernel) (pa_cons (pe_ix ix_tup (pv 0) pe_int (fun _ _ => rfl)) pa_nil)))))), ?_⟩
    have l1 := dec_len (by decide) ht
    have l2 := dec_len (by decide) hb
    refine ⟨_, rfl, q, _, 1, .int b, rfl, rfl, SqT.of hq, rfl, rfl, _, rfl, ite2 (fun h1 => ?_) fun h1 => ?_⟩
    · have h1' : b = 1 := by
        have := of_decide_eq_true h1
        injection this
      have e : ratText t b = dec t := if_pos h1'
      rw [e] at k
      exact ⟨_, rfl, q, _, 0, .int t, rfl, rfl, SqT.of hq, rfl, t, rfl, log_small ht, k⟩
    · have h1' : b ≠ 1 := fun z => h1 (decide_eq_true (by rw [z]))
      have e1 : stroke.length = 1 := by decide +kernel
      refine ⟨_, rfl, q, _, 0, .int t, rfl, rfl, SqT.of hq, rfl, t, rfl, log_small ht, _, stroke, rfl, rfl, ?_, ?_⟩
      · show (dec t).length + stroke.length ≤ sizeLine
        exact Nat.le_trans (show _ ≤ 100 by omega) (by decide)
      refine ⟨_, rfl, q, _, 1, .int b, rfl, rfl, SqT.of hq, rfl, b, rfl, log_small hb, _, _, rfl, rfl, ?_, ?_⟩
      · show (dec t ++ stroke).length + (dec b).length ≤ sizeLine
        rw [Str.length_append]
        exact Nat.le_trans (show _ ≤ 200 by omega) (by decide)
      · have e : ratText t b = dec t ++ stroke ++ dec b := if_neg h1'
        rw [e] at k
        exact k
end

/-! ### lowest terms -/
theorem dvs_abs (t b : Int) : (dvs t b).natAbs = Nat.gcd t.natAbs b.natAbs := by
  unfold dvs
  split <;> omega
theorem dvs_dvd_t (t b : Int) : dvs t b ∣ t := Int.natAbs_dvd_natAbs.mp (by rw [dvs_abs]; exact Nat.gcd_dvd_left _ _)
theorem dvs_dvd_b (t b : Int) : dvs t b ∣ b := Int.natAbs_dvd_natAbs.mp (by rw [dvs_abs]; exact Nat.gcd_dvd_right _ _)
theorem fdiv_mul {a d : Int} (h : d ∣ a) : a.fdiv d * d = a := by
  obtain ⟨c, rfl⟩ := h
  by_cases hd : d = 0
  · subst hd; simp
  · rw [Int.mul_comm d c, Int.mul_fdiv_cancel _ hd]
theorem lowT_mul (t b : Int) : lowT t b * dvs t b = t := fdiv_mul (dvs_dvd_t t b)
theorem lowB_mul (t b : Int) : lowB t b * dvs t b = b := fdiv_mul (dvs_dvd_b t b)
theorem lowT_le {t b : Int} (h : b ≠ 0) : (lowT t b).natAbs ≤ t.natAbs := by
  have e := congrArg Int.natAbs (lowT_mul t b)
  rw [Int.natAbs_mul] at e
  have hd : 0 < (dvs t b).natAbs := by have := dvs_ne (t := t) h; omega
  rw [← e]
  exact Nat.le_mul_of_pos_right _ hd
theorem lowB_le {t b : Int} (h : b ≠ 0) : (lowB t b).natAbs ≤ b.natAbs := by
  have e := congrArg Int.natAbs (lowB_mul t b)
  rw [Int.natAbs_mul] at e
  have hd : 0 < (dvs t b).natAbs := by have := dvs_ne (t := t) h; omega
  rw [← e]
  exact Nat.le_mul_of_pos_right _ hd
theorem lowB_pos {t b : Int} (h : b ≠ 0) : 0 < lowB t b := by
  have e := lowB_mul t b
  have hg : 0 < Nat.gcd t.natAbs b.natAbs := Nat.gcd_pos_of_pos_right _ (by omega)
  by_cases hb : b < 0
  · have hd : dvs t b < 0 := by unfold dvs; rw [if_pos hb]; omega
    rcases Int.lt_trichotomy (lowB t b) 0 with q | q | q
    · have : 0 < lowB t b * dvs t b := Int.mul_pos_of_neg_of_neg q hd
      omega
    · rw [q, Int.zero_mul] at e; omega
    · exact q
  · have hd : 0 < dvs t b := by unfold dvs; rw [if_neg hb]; omega
    rcases Int.lt_trichotomy (lowB t b) 0 with q | q | q
    · have : lowB t b * dvs t b < 0 := Int.mul_neg_of_neg_of_pos q hd
      omega
    · rw [q, Int.zero_mul] at e; omega
    · exact q
theorem low_gcd {t b : Int} (h : b ≠ 0) : Nat.gcd (lowT t b).natAbs (lowB t b).natAbs = 1 := by
  have e1 := congrArg Int.natAbs (lowT_mul t b)
  have e2 := congrArg Int.natAbs (lowB_mul t b)
  rw [Int.natAbs_mul, dvs_abs] at e1 e2
  have hg : 0 < Nat.gcd t.natAbs b.natAbs := Nat.gcd_pos_of_pos_right _ (by omega)
  have e3 : Nat.gcd (lowT t b).natAbs (lowB t b).natAbs * Nat.gcd t.natAbs b.natAbs = 1 * Nat.gcd t.natAbs b.natAbs := by
    rw [← Nat.gcd_mul_right, e1, e2, Nat.one_mul]
  exact Nat.eq_of_mul_eq_mul_right hg e3
theorem low_same {t b : Int} (hb : 0 < b) (hg : Nat.gcd t.natAbs b.natAbs = 1) : lowT t b = t ∧ lowB t b = b := by
  have e : dvs t b = 1 := by
    unfold dvs
    rw [if_neg (by omega), hg]
    rfl
  unfold lowT lowB
  rw [e, Int.fdiv_one, Int.fdiv_one]
  exact ⟨rfl, rfl⟩
theorem low_low {t b : Int} (h : b ≠ 0) : lowT (lowT t b) (lowB t b) = lowT t b ∧ lowB (lowT t b) (lowB t b) = lowB t b := low_same (lowB_pos h) (low_gcd h)
theorem dec_small {n : Int} (h0 : ¬ n < 0) (h : ¬ (9 : Int) < ((dec n).length : Int)) : n.natAbs < 10 ^ 9 := by
  rcases Nat.lt_or_ge n.natAbs (10 ^ 9) with q | q
  · exact q
  · have := PyProof.Rows.digits10_ge q
    rw [TL.len_tl, dec_nn h0] at h
    have e : (TL.numL n.natAbs).length = (Nat.toDigits 10 n.natAbs).length := by unfold TL.numL; rw [List.length_map]
    omega

/-! ### sums, products, differences -/
section
variable {P : Program} {w : World} {K : PySem.W.Frag} {mg : Str → Option Value} {base : Heap}
def Low (t b : Int) : Prop := 0 < b ∧ Nat.gcd t.natAbs b.natAbs = 1
theorem Low.of {t b : Int} (h : b ≠ 0) : Low (lowT t b) (lowB t b) := ⟨lowB_pos h, low_gcd h⟩
theorem Low.neg {t b : Int} (h : Low t b) : Low (-t) b := ⟨h.1, by rw [Int.natAbs_neg]; exact h.2⟩
theorem Low.one (t : Int) : Low t 1 := ⟨by decide, by simp⟩
theorem Low.ne {t b : Int} (h : Low t b) : b ≠ 0 := by have := h.1; omega
theorem Low.tt {t b : Int} (h : Low t b) : lowT t b = t := (low_same h.1 h.2).1
theorem Low.bb {t b : Int} (h : Low t b) : lowB t b = b := (low_same h.1 h.2).2
theorem dvs_scale {k t b : Int} (hk : k ≠ 0) (hb : b ≠ 0) : dvs (k * t) (k * b) = k * dvs t b := by
  have eg : Nat.gcd (k * t).natAbs (k * b).natAbs = k.natAbs * Nat.gcd t.natAbs b.natAbs := by rw [Int.natAbs_mul, Int.natAbs_mul, Nat.gcd_mul_left]
  unfold dvs
  rw [eg, Int.natCast_mul]
  generalize ((Nat.gcd t.natAbs b.natAbs : Nat) : Int) = g
  rcases Int.lt_or_gt_of_ne hk with q | q <;> rcases Int.lt_or_gt_of_ne hb with r | r
  · have : 0 < k * b := Int.mul_pos_of_neg_of_neg q r
    rw [if_neg (by omega), if_pos r, show ((k.natAbs : Nat) : Int) = -k by omega, Int.neg_mul, Int.mul_neg]
  · have : k * b < 0 := Int.mul_neg_of_neg_of_pos q r
    rw [if_pos this, if_neg (by omega), show ((k.natAbs : Nat) : Int) = -k by omega, Int.neg_mul, Int.neg_neg]
  · have : k * b < 0 := Int.mul_neg_of_pos_of_neg q r
    rw [if_pos this, if_pos r, show ((k.natAbs : Nat) : Int) = k by omega, Int.mul_neg]
  · have : 0 < k * b := Int.mul_pos q r
    rw [if_neg (by omega), if_neg (by omega), show ((k.natAbs : Nat) : Int) = k by omega]
theorem fdiv_scale {k a d : Int} (hk : k ≠ 0) (hd : d ≠ 0) (h : d ∣ a) : (k * a).fdiv (k * d) = a.fdiv d := by
  obtain ⟨c, rfl⟩ := h
  have e : k * (d * c) = c * (k * d) := by rw [Int.mul_comm c, Int.mul_assoc]
  rw [e, Int.mul_fdiv_cancel _ (Int.mul_ne_zero hk hd), Int.mul_comm d c, Int.mul_fdiv_cancel _ hd]
theorem low_scale {k t b : Int} (hk : k ≠ 0) (hb : b ≠ 0) : lowT (k * t) (k * b) = lowT t b ∧ lowB (k * t) (k * b) = lowB t b := by
  unfold lowT lowB
  rw [dvs_scale hk hb]
  exact ⟨fdiv_scale hk (dvs_ne hb) (dvs_dvd_t t b), fdiv_scale hk (dvs_ne hb) (dvs_dvd_b t b)⟩
/-- divided by x / y, that is, times the lowest terms of y / x -/
theorem low_over {t b x y : Int} (hy : y ≠ 0) (hb : b ≠ 0) : lowT (t * x) (b * y) = lowT (t * lowT x y) (b * lowB x y) ∧ lowB (t * x) (b * y) = lowB (t * lowT x y) (b * lowB x y) := by
  have h := low_scale (k := dvs x y) (t := t * lowT x y) (b := b * lowB x y) (dvs_ne hy) (Int.mul_ne_zero hb (by have := lowB_pos (t := x) hy; omega))
  have e1 : dvs x y * (t * lowT x y) = t * x := by rw [Int.mul_comm, Int.mul_assoc, lowT_mul]
  have e2 : dvs x y * (b * lowB x y) = b * y := by rw [Int.mul_comm, Int.mul_assoc, lowB_mul]
  rw [e1, e2] at h
  exact h
def SM (z : Int) : Prop := z.natAbs < 2 ^ 200
theorem sm_mul {a b : Int} (ha : SM a) (hb : SM b) : CMulW a b := wide_mul (a := 200) (b := 200) ha hb (by decide) (by decide) (by decide)
theorem big_mul {a b : Int} (ha : SM a) (hb : SM b) : BIG (a * b) := by
  show (a * b).natAbs < 2 ^ 8000
  rw [Int.natAbs_mul]
  exact Nat.lt_of_le_of_lt (Nat.mul_le_mul (Nat.le_of_lt ha) (Nat.le_of_lt hb)) (by decide +kernel)
theorem SM.big {a : Int} (h : SM a) : BIG a := Nat.lt_of_lt_of_le h (by decide +kernel)
theorem SM.neg {a : Int} (h : SM a) : SM (-a) := by unfold SM; rw [Int.natAbs_neg]; exact h
theorem sm_one : SM 1 := by show (1 : Nat) < 2 ^ 200; decide +kernel
/-- a ratio, or an int as one -/
def Num (C : Addr) (H : Hp) (v : V) (t b : Int) : Prop := (v = .int t ∧ b = 1) ∨ ∃ p, v = .ref p ∧ RatAt C H p t b
theorem RatAt.on {C : Addr} {H H' : Hp} {p : Addr} {t b : Int} (r : RatAt C H p t b) (s : Same H H') : RatAt C H' p t b := let ⟨dx, h⟩ := r; ⟨dx, s _ _ h⟩
theorem Num.on {C : Addr} {H H' : Hp} {v : V} {t b : Int} (n : Num C H v t b) (s : Same H H') : Num C H' v t b := n.elim .inl fun ⟨p, e, r⟩ => .inr ⟨p, e, r.on s⟩
def spNum (C : Addr) : Sp := fun vs H Q _ => ∃ (v : V) (t b : Int), vs = [v] ∧ Num C H v t b ∧ ∀ p H', Same H H' → RatAt C H' p t b → Q (.ref p) H'
theorem ok_asN (T : Txt K mg) : FnOk P w K mg base CX0 3 T.f_as_ratio T.d_as_ratio ["value"] (spNum T.f_Ratio) := by
  have G_Ratio_init : FnOk P w K mg base CX0 1 T.f_Ratio_init T.d_Ratio_init ["self", "top", "bottom"] (spInit T.f_Ratio) := ok_init T
  refine T.F_as_ratio.ok sc_as_ratio (fun vs H Q E h => ?_) (fun cdv A outer s H vs Q E hr h => ?_)
  · obtain ⟨v, t, b, rfl, _⟩ := h
    rfl
  · obtain ⟨v, t, b, rfl, n, k⟩ := h
    refine ⟨_, (pss_cons (ps_if (pt_val (pe_callB call_isi (by rfl) T.n_isinstance (by decide +kernel) (pa_cons (pv 0) (pa_cons (pe_glob (v := .ref T.f_Ratio) rfl T.m_Ratio rfl) pa_nil))))
      (pss_one (ps_ret (pv 0)))
      pss_nil)
    (pss_one (ps_ret (pe_make T.mk_Ratio G_Ratio_init (hr.mono (by decide)) rfl T.m_Ratio T.b1_Ratio_init T.v1_Ratio_init pass0 (pa_cons (pv 0) pa_nil))))), ?_⟩
    rcases n with ⟨rfl, rfl⟩ | ⟨p, rfl, r⟩
    · refine ⟨_, rfl, .int t, .ref T.f_Ratio, .type "int", .ref T.f_Ratio, false, rfl, .own _, .base (.int _), T.ki_Ratio_int, false, rfl, iteF ?_⟩
      refine ⟨_, rfl, made_rat (by decide) big_one fun x H' nx sm r => ?_⟩
      rw [(low_one t).1, (low_one t).2] at r
      exact k x H' sm r
    · exact ⟨_, rfl, .ref p, .ref T.f_Ratio, .ref T.f_Ratio, .ref T.f_Ratio, true, rfl, .own _, tyR T.ic_Ratio r, kit_self, true, rfl, iteT ⟨_, rfl, k p H (Same.refl H) r⟩⟩
/-- a new ratio, in lowest terms -/
def Res (C : Addr) (H : Hp) (x y : Int) (Q : VK) : Prop := ∀ q H', H q = none → Same H H' → RatAt C H' q (lowT x y) (lowB x y) → Q (.ref q) H'
def spAdd (C : Addr) : Sp := fun vs H Q _ => ∃ (p : Addr) (y : V) (t b t' b' : Int), vs = [.ref p, y] ∧ RatAt C H p t b ∧ Num C H y t' b' ∧ SM t ∧ SM b ∧ SM t' ∧ SM b' ∧ b ≠ 0 ∧ b' ≠ 0 ∧ Res C H (t * b' + t' * b) (b * b') Q
def spMul (C : Addr) : Sp := fun vs H Q _ => ∃ (p : Addr) (y : V) (t b t' b' : Int), vs = [.ref p, y] ∧ RatAt C H p t b ∧ Num C H y t' b' ∧ SM t ∧ SM b ∧ SM t' ∧ SM b' ∧ b ≠ 0 ∧ b' ≠ 0 ∧ Res C H (t * t') (b * b') Q
def spOver (C : Addr) : Sp := fun vs H Q _ => ∃ (p : Addr) (y : V) (t b t' b' : Int), vs = [.ref p, y] ∧ RatAt C H p t b ∧ Num C H y t' b' ∧ SM t ∧ SM b ∧ SM t' ∧ SM b' ∧ b ≠ 0 ∧ t' ≠ 0 ∧ Res C H (t * b') (b * t') Q
def spBelow (C : Addr) : Sp := fun vs H Q _ => ∃ (p : Addr) (y : V) (t b t' b' : Int), vs = [.ref p, y] ∧ RatAt C H p t b ∧ Num C H y t' b' ∧ SM t ∧ SM b ∧ SM t' ∧ SM b' ∧ ∀ H', Same H H' → Q (.bl (decide (t * b' < t' * b))) H'
def spNeg (C : Addr) : Sp := fun vs H Q _ => ∃ (p : Addr) (t b : Int), vs = [.ref p] ∧ RatAt C H p t b ∧ Low t b ∧ SM b ∧ ∀ q H', H q = none → Same H H' → RatAt C H' q (-t) b → Q (.ref q) H'
def spEqB (C : Addr) : Sp := fun vs H Q _ => ∃ (p q : Addr) (t b t' b' : Int), vs = [.ref p, .ref q] ∧ RatAt C H p t b ∧ RatAt C H q t' b' ∧ Q (.bl (decide (t = t' ∧ b = b'))) H
theorem ok_add (T : Txt K mg) : FnOk P w K mg base CX0 4 T.f_Ratio_add T.d_Ratio_add ["self", "other"] (spAdd T.f_Ratio) := by
  have G_Ratio_init : FnOk P w K mg base CX0 1 T.f_Ratio_init T.d_Ratio_init ["self", "top", "bottom"] (spInit T.f_Ratio) := ok_init T
  have G_Ratio_top : FnOk P w K mg base CX0 1 T.f_Ratio_top T.d_Ratio_top ["self"] (spTop T.f_Ratio) := ok_top T
  have G_Ratio_bottom : FnOk P w K mg base CX0 1 T.f_Ratio_bottom T.d_Ratio_bottom ["self"] (spBottom T.f_Ratio) := ok_bottom T
  have G_as_ratio : FnOk P w K mg base CX0 3 T.f_as_ratio T.d_as_ratio ["value"] (spNum T.f_Ratio) := ok_asN T
  refine T.F_Ratio_add.ok sc_Ratio_add (fun vs H Q E h => ?_) (fun cdv A outer s H vs Q E hr h => ?_)
  · obtain ⟨p, y, t, b, t', b', rfl, _⟩ := h
    rfl
  · obtain ⟨p, y, t, b, t', b', rfl, r, n, ht, hb, ht', hb', h0, h0', k⟩ := h
    refine ⟨_, (pss_cons (ps_set (i := 2) sc_Ratio_add.nd rfl (Or.inl rfl) (pe_call G_as_ratio (hr.mono (by decide)) rfl T.m_as_ratio T.F_as_ratio.kp T.b_as_ratio .nil pass0 (pa_cons (pv 1) pa_nil)))
    (pss_cons (ps_set (i := 3) sc_Ratio_add.nd rfl (Or.inl rfl) (pe_op op_add (pe_op op_mulW (pe_fld (pv 0) rfl) (pe_prop (pv 2) T.cl_Ratio T.p_Ratio_bottom G_Ratio_bottom (hr.mono (by decide)) T.b_Ratio_bottom .nil pass0 rfl)) (pe_op op_mulW (pe_prop (pv 2) T.cl_Ratio T.p_Ratio_top G_Ratio_top (hr.mono (by decide)) T.b_Ratio_top .nil pass0 rfl) (pe_fld (pv 0) rfl))))
    (pss_one (ps_ret (pe_make T.mk_Ratio G_Ratio_init (hr.mono (by decide)) rfl T.m_Ratio T.b2_Ratio_init T.v2_Ratio_init pass0 (pa_cons (pv 3) (pa_cons (pe_op op_mulW (pe_fld (pv 0) rfl) (pe_prop (pv 2) T.cl_Ratio T.p_Ratio_bottom G_Ratio_bottom (hr.mono (by decide)) T.b_Ratio_bottom .nil pass0 rfl)) pa_nil))))))), ?_⟩
    refine ⟨_, rfl, y, t', b', rfl, n, fun p' H1 s1 r1 => ?_⟩
    obtain ⟨dx, hp⟩ := r.on s1
    obtain ⟨dx', hp'⟩ := id r1
    refine ⟨_, rfl, p, T.f_Ratio, dx, _, _, rfl, hp, T.cl_Ratio, T.na_Ratio_top, rf_top _ _, _, rfl, p', dx', _, rfl, hp', p', t', b', rfl, r1, _, _, rfl, rfl, sm_mul ht hb', ?_⟩
    refine ⟨_, rfl, p', dx', _, rfl, hp', p', t', b', rfl, r1, _, rfl, p, T.f_Ratio, dx, _, _, rfl, hp, T.cl_Ratio, T.na_Ratio_bottom, rf_bottom _ _, _, _, rfl, rfl, sm_mul ht' hb, _, _, rfl, rfl, ?_⟩
    refine ⟨_, rfl, _, rfl, p, T.f_Ratio, dx, _, _, rfl, hp, T.cl_Ratio, T.na_Ratio_bottom, rf_bottom _ _, _, rfl, p', dx', _, rfl, hp', p', t', b', rfl, r1, _, _, rfl, rfl, sm_mul hb hb', ?_⟩
    exact made_rat (Int.mul_ne_zero h0 h0') (big_mul hb hb') fun q H' nq sq rq => k q H' (s1.free nq) (s1.trans sq) rq
theorem ok_mul (T : Txt K mg) : FnOk P w K mg base CX0 4 T.f_Ratio_mul T.d_Ratio_mul ["self", "other"] (spMul T.f_Ratio) := by
  have G_Ratio_init : FnOk P w K mg base CX0 1 T.f_Ratio_init T.d_Ratio_init ["self", "top", "bottom"] (spInit T.f_Ratio) := ok_init T
  have G_Ratio_top : FnOk P w K mg base CX0 1 T.f_Ratio_top T.d_Ratio_top ["self"] (spTop T.f_Ratio) := ok_top T
  have G_Ratio_bottom : FnOk P w K mg base CX0 1 T.f_Ratio_bottom T.d_Ratio_bottom ["self"] (spBottom T.f_Ratio) := ok_bottom T
  have G_as_ratio : FnOk P w K mg base CX0 3 T.f_as_ratio T.d_as_ratio ["value"] (spNum T.f_Ratio) := ok_asN T
  refine T.F_Ratio_mul.ok sc_Ratio_mul (fun vs H Q E h => ?_) (fun cdv A outer s H vs Q E hr h => ?_)
  · obtain ⟨p, y, t, b, t', b', rfl, _⟩ := h
    rfl
  · obtain ⟨p, y, t, b, t', b', rfl, r, n, ht, hb, ht', hb', h0, h0', k⟩ := h
    refine ⟨_, (pss_cons (ps_set (i := 2) sc_Ratio_mul.nd rfl (Or.inl rfl) (pe_call G_as_ratio (hr.mono (by decide)) rfl T.m_as_ratio T.F_as_ratio.kp T.b_as_ratio .nil pass0 (pa_cons (pv 1) pa_nil)))
    (pss_one (ps_ret (pe_make T.mk_Ratio G_Ratio_init (hr.mono (by decide)) rfl T.m_Ratio T.b2_Ratio_init T.v2_Ratio_init pass0 (pa_cons (pe_op op_mulW (pe_fld (pv 0) rfl) (pe_prop (pv 2) T.cl_Ratio T.p_Ratio_top G_Ratio_top (hr.mono (by decide)) T.b_Ratio_top .nil pass0 rfl)) (pa_cons (pe_op op_mulW (pe_fld (pv 0) rfl) (pe_prop (pv 2) T.cl_Ratio T.p_Ratio_bottom G_Ratio_bottom (hr.mono (by decide)) T.b_Ratio_bottom .nil pass0 rfl)) pa_nil)))))), ?_⟩
    refine ⟨_, rfl, y, t', b', rfl, n, fun p' H1 s1 r1 => ?_⟩
    obtain ⟨dx, hp⟩ := r.on s1
    obtain ⟨dx', hp'⟩ := id r1
    refine ⟨_, rfl, p, T.f_Ratio, dx, _, _, rfl, hp, T.cl_Ratio, T.na_Ratio_top, rf_top _ _, _, rfl, p', dx', _, rfl, hp', p', t', b', rfl, r1, _, _, rfl, rfl, sm_mul ht ht', ?_⟩
    refine ⟨_, rfl, p, T.f_Ratio, dx, _, _, rfl, hp, T.cl_Ratio, T.na_Ratio_bottom, rf_bottom _ _, _, rfl, p', dx', _, rfl, hp', p', t', b', rfl, r1, _, _, rfl, rfl, sm_mul hb hb', ?_⟩
    exact made_rat (Int.mul_ne_zero h0 h0') (big_mul hb hb') fun q H' nq sq rq => k q H' (s1.free nq) (s1.trans sq) rq
theorem ok_over (T : Txt K mg) : FnOk P w K mg base CX0 4 T.f_Ratio_over T.d_Ratio_over ["self", "value"] (spOver T.f_Ratio) := by
  have G_Ratio_init : FnOk P w K mg base CX0 1 T.f_Ratio_init T.d_Ratio_init ["self", "top", "bottom"] (spInit T.f_Ratio) := ok_init T
  have G_Ratio_top : FnOk P w K mg base CX0 1 T.f_Ratio_top T.d_Ratio_top ["self"] (spTop T.f_Ratio) := ok_top T
  have G_Ratio_bottom : FnOk P w K mg base CX0 1 T.f_Ratio_bottom T.d_Ratio_bottom ["self"] (spBottom T.f_Ratio) := ok_bottom T
  have G_as_ratio : FnOk P w K mg base CX0 3 T.f_as_ratio T.d_as_ratio ["value"] (spNum T.f_Ratio) := ok_asN T
  refine T.F_Ratio_over.ok sc_Ratio_over (fun vs H Q E h => ?_) (fun cdv A outer s H vs Q E hr h => ?_)
  · obtain ⟨p, y, t, b, t', b', rfl, _⟩ := h
    rfl
  · obtain ⟨p, y, t, b, t', b', rfl, r, n, ht, hb, ht', hb', h0, h0', k⟩ := h
    refine ⟨_, PSs.nox (pss_cons (ps_set (i := 2) sc_Ratio_over.nd rfl (Or.inl rfl) (pe_call G_as_ratio (hr.mono (by decide)) rfl T.m_as_ratio T.F_as_ratio.kp T.b_as_ratio .nil pass0 (pa_cons (pv 1) pa_nil)))
    (pss_cons (ps_if (pt_cmpR op_eq (pe_prop (pv 2) T.cl_Ratio T.p_Ratio_top G_Ratio_top (hr.mono (by decide)) T.b_Ratio_top .nil pass0 rfl) pe_int (nomark _))
      (pss_one ps_never)
      pss_nil)
    (pss_one (ps_ret (pe_make T.mk_Ratio G_Ratio_init (hr.mono (by decide)) rfl T.m_Ratio T.b2_Ratio_init T.v2_Ratio_init pass0 (pa_cons (pe_op op_mulW (pe_fld (pv 0) rfl) (pe_prop (pv 2) T.cl_Ratio T.p_Ratio_bottom G_Ratio_bottom (hr.mono (by decide)) T.b_Ratio_bottom .nil pass0 rfl)) (pa_cons (pe_op op_mulW (pe_fld (pv 0) rfl) (pe_prop (pv 2) T.cl_Ratio T.p_Ratio_top G_Ratio_top (hr.mono (by decide)) T.b_Ratio_top .nil pass0 rfl)) pa_nil))))))), ?_⟩
    refine ⟨_, rfl, y, t', b', rfl, n, fun p' H1 s1 r1 => ?_⟩
    obtain ⟨dx, hp⟩ := r.on s1
    obtain ⟨dx', hp'⟩ := id r1
    refine ⟨_, rfl, p', dx', _, rfl, hp', p', t', b', rfl, r1, rfl, _, rfl, ite2 (fun hz => ?_) fun _ => ?_⟩
    · have e : V.int t' = V.int 0 := of_decide_eq_true hz
      injection e with e
      exact absurd e h0'
    refine ⟨_, rfl, p, T.f_Ratio, dx, _, _, rfl, hp, T.cl_Ratio, T.na_Ratio_top, rf_top _ _, _, rfl, p', dx', _, rfl, hp', p', t', b', rfl, r1, _, _, rfl, rfl, sm_mul ht hb', ?_⟩
    refine ⟨_, rfl, p, T.f_Ratio, dx, _, _, rfl, hp, T.cl_Ratio, T.na_Ratio_bottom, rf_bottom _ _, _, rfl, p', dx', _, rfl, hp', p', t', b', rfl, r1, _, _, rfl, rfl, sm_mul hb ht', ?_⟩
    exact made_rat (Int.mul_ne_zero h0 h0') (big_mul hb ht') fun q H' nq sq rq => k q H' (s1.free nq) (s1.trans sq) rq
theorem ok_below (T : Txt K mg) : FnOk P w K mg base CX0 4 T.f_Ratio_below T.d_Ratio_below ["self", "value"] (spBelow T.f_Ratio) := by
  have G_Ratio_top : FnOk P w K mg base CX0 1 T.f_Ratio_top T.d_Ratio_top ["self"] (spTop T.f_Ratio) := ok_top T
  have G_Ratio_bottom : FnOk P w K mg base CX0 1 T.f_Ratio_bottom T.d_Ratio_bottom ["self"] (spBottom T.f_Ratio) := ok_bottom T
  have G_as_ratio : FnOk P w K mg base CX0 3 T.f_as_ratio T.d_as_ratio ["value"] (spNum T.f_Ratio) := ok_asN T
  refine T.F_Ratio_below.ok sc_Ratio_below (fun vs H Q E h => ?_) (fun cdv A outer s H vs Q E hr h => ?_)
  · obtain ⟨p, y, t, b, t', b', rfl, _⟩ := h
    rfl
  · obtain ⟨p, y, t, b, t', b', rfl, r, n, ht, hb, ht', hb', k⟩ := h
    refine ⟨_, (pss_cons (ps_set (i := 2) sc_Ratio_below.nd rfl (Or.inl rfl) (pe_call G_as_ratio (hr.mono (by decide)) rfl T.m_as_ratio T.F_as_ratio.kp T.b_as_ratio .nil pass0 (pa_cons (pv 1) pa_nil)))
    (pss_one (ps_ret (pe_cmpR op_lt (pe_op op_mulW (pe_fld (pv 0) rfl) (pe_prop (pv 2) T.cl_Ratio T.p_Ratio_bottom G_Ratio_bottom (hr.mono (by decide)) T.b_Ratio_bottom .nil pass0 rfl)) (pe_op op_mulW (pe_prop (pv 2) T.cl_Ratio T.p_Ratio_top G_Ratio_top (hr.mono (by decide)) T.b_Ratio_top .nil pass0 rfl) (pe_fld (pv 0) rfl)) (nomark _))))), ?_⟩
    refine ⟨_, rfl, y, t', b', rfl, n, fun p' H1 s1 r1 => ?_⟩
    obtain ⟨dx, hp⟩ := r.on s1
    obtain ⟨dx', hp'⟩ := id r1
    refine ⟨_, rfl, p, T.f_Ratio, dx, _, _, rfl, hp, T.cl_Ratio, T.na_Ratio_top, rf_top _ _, _, rfl, p', dx', _, rfl, hp', p', t', b', rfl, r1, _, _, rfl, rfl, sm_mul ht hb', ?_⟩
    refine ⟨_, rfl, p', dx', _, rfl, hp', p', t', b', rfl, r1, _, rfl, p, T.f_Ratio, dx, _, _, rfl, hp, T.cl_Ratio, T.na_Ratio_bottom, rf_bottom _ _, _, _, rfl, rfl, sm_mul ht' hb, _, _, rfl, rfl, ?_⟩
    exact k H1 s1
theorem ok_neg (T : Txt K mg) : FnOk P w K mg base CX0 3 T.f_Ratio_neg T.d_Ratio_neg ["self"] (spNeg T.f_Ratio) := by
  have G_Ratio_init : FnOk P w K mg base CX0 1 T.f_Ratio_init T.d_Ratio_init ["self", "top", "bottom"] (spInit T.f_Ratio) := ok_init T
  refine T.F_Ratio_neg.ok sc_Ratio_neg (fun vs H Q E h => ?_) (fun cdv A outer s H vs Q E hr h => ?_)
  · obtain ⟨p, t, b, rfl, _⟩ := h
    rfl
  · obtain ⟨p, t, b, rfl, ⟨dx, hp⟩, hl, hb, k⟩ := h
    refine ⟨_, (pss_one (ps_ret (pe_make T.mk_Ratio G_Ratio_init (hr.mono (by decide)) rfl T.m_Ratio T.b2_Ratio_init T.v2_Ratio_init pass0 (pa_cons (pe_un un_neg (pe_fld (pv 0) rfl)) (pa_cons (pe_fld (pv 0) rfl) pa_nil))))), ?_⟩
    refine ⟨_, rfl, p, T.f_Ratio, dx, _, _, rfl, hp, T.cl_Ratio, T.na_Ratio_top, rf_top _ _, t, rfl, _, rfl, p, T.f_Ratio, dx, _, _, rfl, hp, T.cl_Ratio, T.na_Ratio_bottom, rf_bottom _ _, ?_⟩
    refine made_rat hl.ne hb.big fun q H' nq sq rq => ?_
    rw [hl.neg.tt, hl.neg.bb] at rq
    exact k q H' nq sq rq
theorem ok_eqB (T : Txt K mg) : FnOk P w K mg base CX0 1 T.f_Ratio_eq T.d_Ratio_eq ["self", "other"] (spEqB T.f_Ratio) := by
  refine T.F_Ratio_eq.ok sc_Ratio_eq (fun vs H Q E h => ?_) (fun cdv A outer s H vs Q E hr h => ?_)
  · obtain ⟨a, b, t, c, t', c', rfl, _⟩ := h
    rfl
  · obtain ⟨a, b, t, c, t', c', rfl, ra, rb, k⟩ := h
    obtain ⟨da, ha⟩ := id ra
    obtain ⟨db, hb⟩ := id rb
    refine ⟨_, (pss_one (ps_ret (pe_and (pe_callB call_isi (by rfl) T.n_isinstance (by decide +kernel) (pa_cons (pv 1) (pa_cons (pe_glob (v := .ref T.f_Ratio) rfl T.m_Ratio rfl) pa_nil))) (pe_and (pe_cmpR op_eq (pe_fld (pv 0) rfl) (pe_fld (pv 1) rfl) (nomark _)) (pe_one (pe_cmpR op_eq (pe_fld (pv 0) rfl) (pe_fld (pv 1) rfl) (nomark _))))))), ?_⟩
    refine ⟨_, rfl, .ref b, .ref T.f_Ratio, .ref T.f_Ratio, .ref T.f_Ratio, true, rfl, .own _, tyR T.ic_Ratio rb, kit_self, true, rfl, iteT ?_⟩
    refine ⟨_, rfl, a, T.f_Ratio, da, _, _, rfl, ha, T.cl_Ratio, T.na_Ratio_top, rf_top _ _, _, rfl, b, T.f_Ratio, db, _, _, rfl, hb, T.cl_Ratio, T.na_Ratio_top, rf_top _ _, rfl, ?_⟩
    by_cases e1 : t = t'
    · refine ⟨true, by rw [decide_eq_true (by rw [e1])], iteT ?_⟩
      refine ⟨_, rfl, a, T.f_Ratio, da, _, _, rfl, ha, T.cl_Ratio, T.na_Ratio_bottom, rf_bottom _ _, _, rfl, b, T.f_Ratio, db, _, _, rfl, hb, T.cl_Ratio, T.na_Ratio_bottom, rf_bottom _ _, rfl, ?_⟩
      have e : decide (V.int c = V.int c') = decide (t = t' ∧ c = c') := decide_eq_decide.mpr ⟨fun q => ⟨e1, by injection q⟩, fun q => by rw [q.2]⟩
      rw [e]
      exact k
    · refine ⟨false, by rw [decide_eq_false (fun q => e1 (by injection q))], iteF ?_⟩
      have e : decide (t = t' ∧ c = c') = false := decide_eq_false fun q => e1 q.1
      rw [e] at k
      exact k
end

/-! ### differences, least and greatest -/
section
variable {P : Program} {w : World} {K : PySem.W.Frag} {mg : Str → Option Value} {base : Heap}
def spSub (C : Addr) : Sp := fun vs H Q _ => ∃ (p : Addr) (y : V) (t b t' b' : Int), vs = [.ref p, y] ∧ RatAt C H p t b ∧ Num C H y t' b' ∧ SM t ∧ SM b ∧ SM t' ∧ SM b' ∧ b ≠ 0 ∧ Low t' b' ∧ Res C H (t * b' + -t' * b) (b * b') Q
def spRsub (C : Addr) : Sp := fun vs H Q _ => ∃ (p : Addr) (i t b : Int), vs = [.ref p, .int i] ∧ RatAt C H p t b ∧ SM t ∧ SM b ∧ SM i ∧ Low t b ∧ Res C H (-t * 1 + i * b) (b * 1) Q
theorem ok_sub (T : Txt K mg) : FnOk P w K mg base CX0 5 T.f_Ratio_sub T.d_Ratio_sub ["self", "other"] (spSub T.f_Ratio) := by
  have G_Ratio_add : FnOk P w K mg base CX0 4 T.f_Ratio_add T.d_Ratio_add ["self", "other"] (spAdd T.f_Ratio) := ok_add T
  have G_Ratio_neg : FnOk P w K mg base CX0 3 T.f_Ratio_neg T.d_Ratio_neg ["self"] (spNeg T.f_Ratio) := ok_neg T
  refine T.F_Ratio_sub.ok sc_Ratio_sub (fun vs H Q E h => ?_) (fun cdv A outer s H vs Q E hr h => ?_)
  · obtain ⟨p, y, t, b, t', b', rfl, _⟩ := h
    rfl
  · obtain ⟨p, y, t, b, t', b', rfl, r, n, ht, hb, ht', hb', h0, hl, k⟩ := h
    obtain ⟨dx, hp⟩ := id r
    refine ⟨_, (pss_one (ps_ret (pe_op (op_or (op_oo (nm := "add") rfl T.op_Ratio_add G_Ratio_add (hr.mono (by decide)) T.b_Ratio_add pass0) (op_oi (nm := "add") rfl T.op_Ratio_add G_Ratio_add (hr.mono (by decide)) T.b_Ratio_add pass0)) (pv 0) (pe_un (un_or un_neg (un_negO T.a_Ratio_neg T.i_Ratio_neg G_Ratio_neg (hr.mono (by decide)) T.b_Ratio_neg pass0)) (pv 1))))), ?_⟩
    rcases n with ⟨rfl, rfl⟩ | ⟨q, rfl, rq⟩
    · exact ⟨_, rfl, _, rfl, .inl ⟨t', rfl, .inr ⟨p, dx, _, -t', rfl, rfl, hp, p, _, t, b, -t', 1, rfl, r, .inl ⟨rfl, rfl⟩, ht, hb, ht'.neg, hb', h0, by decide, k⟩⟩⟩
    · obtain ⟨dq, hq⟩ := id rq
      refine ⟨_, rfl, _, rfl, .inr ⟨q, dq, _, rfl, hq, q, t', b', rfl, rq, hl, hb', fun o H1 no s1 ro => ?_⟩⟩
      obtain ⟨d0, ho⟩ := id ro
      exact .inl ⟨p, dx, _, o, d0, _, rfl, rfl, s1 _ _ hp, ho, p, _, t, b, -t', b', rfl, r.on s1, .inr ⟨o, rfl, ro⟩, ht, hb, ht'.neg, hb', h0, hl.ne, fun q' H' nq sq rq' => k q' H' (s1.free nq) (s1.trans sq) rq'⟩
theorem ok_rsub (T : Txt K mg) : FnOk P w K mg base CX0 5 T.f_Ratio_rsub T.d_Ratio_rsub ["self", "other"] (spRsub T.f_Ratio) := by
  have G_Ratio_add : FnOk P w K mg base CX0 4 T.f_Ratio_add T.d_Ratio_add ["self", "other"] (spAdd T.f_Ratio) := ok_add T
  have G_Ratio_neg : FnOk P w K mg base CX0 3 T.f_Ratio_neg T.d_Ratio_neg ["self"] (spNeg T.f_Ratio) := ok_neg T
  refine T.F_Ratio_rsub.ok sc_Ratio_rsub (fun vs H Q E h => ?_) (fun cdv A outer s H vs Q E hr h => ?_)
  · obtain ⟨p, i, t, b, rfl, _⟩ := h
    rfl
  · obtain ⟨p, i, t, b, rfl, r, ht, hb, hi, hl, k⟩ := h
    obtain ⟨dx, hp⟩ := id r
    refine ⟨_, (pss_one (ps_ret (pe_op (op_oi (nm := "add") rfl T.op_Ratio_add G_Ratio_add (hr.mono (by decide)) T.b_Ratio_add pass0) (pe_un (un_negO T.a_Ratio_neg T.i_Ratio_neg G_Ratio_neg (hr.mono (by decide)) T.b_Ratio_neg pass0) (pv 0)) (pv 1)))), ?_⟩
    refine ⟨_, rfl, p, dx, _, rfl, hp, p, t, b, rfl, r, hl, hb, fun o H1 no s1 ro => ?_⟩
    obtain ⟨d0, ho⟩ := id ro
    exact ⟨_, rfl, o, d0, _, i, rfl, rfl, ho, o, _, -t, b, i, 1, rfl, ro, .inl ⟨rfl, rfl⟩, ht.neg, hb, hi, sm_one, hl.ne, by decide, fun q' H' nq sq rq' => k q' H' (s1.free nq) (s1.trans sq) rq'⟩
/-- the least, the greatest -/
def pick (m v : Int × Int) : Int × Int := if v.1 * m.2 < m.1 * v.2 then v else m
def pickG (m v : Int × Int) : Int × Int := if m.1 * v.2 < v.1 * m.2 then v else m
def foldP (f : Int × Int → Int × Int → Int × Int) : List (Int × Int) → Int × Int
  | [] => (0, 1)
  | v :: r => r.foldl f v
def ngP (v : Int × Int) : Int × Int := (-v.1, v.2)
theorem pick_neg (m v : Int × Int) : pick (ngP m) (ngP v) = ngP (pickG m v) := by
  unfold pick pickG ngP
  simp only
  have e : (-v.1 * m.2 < -m.1 * v.2) ↔ (m.1 * v.2 < v.1 * m.2) := by rw [Int.neg_mul, Int.neg_mul]; omega
  by_cases h : m.1 * v.2 < v.1 * m.2
  · rw [if_pos (e.mpr h), if_pos h]
  · rw [if_neg (fun q => h (e.mp q)), if_neg h]
theorem fold_neg : ∀ (l : List (Int × Int)) (m : Int × Int), (l.map ngP).foldl pick (ngP m) = ngP (l.foldl pickG m)
  | [], m => rfl
  | v :: r, m => by
    show (r.map ngP).foldl pick (pick (ngP m) (ngP v)) = ngP (r.foldl pickG (pickG m v))
    rw [pick_neg]
    exact fold_neg r _
theorem least_neg {ps : List (Int × Int)} (h : ps ≠ []) : foldP pick (ps.map ngP) = ngP (foldP pickG ps) := by
  cases ps with
  | nil => exact absurd rfl h
  | cons v r => exact fold_neg r v
/-- small and in lowest terms -/
def Fine (v : Int × Int) : Prop := Low v.1 v.2 ∧ SM v.1 ∧ SM v.2
theorem Fine.ng {v : Int × Int} (h : Fine v) : Fine (ngP v) := ⟨h.1.neg, h.2.1.neg, h.2.2⟩
theorem fine_pick {m v : Int × Int} (a : Fine m) (b : Fine v) : Fine (pick m v) := by unfold pick; split <;> assumption
theorem fine_fold : ∀ (l : List (Int × Int)) (m : Int × Int), Fine m → (∀ v ∈ l, Fine v) → Fine (l.foldl pick m)
  | [], m, h, _ => h
  | v :: r, m, h, k => fine_fold r _ (fine_pick h (k v List.mem_cons_self)) fun u hu => k u (List.mem_cons_of_mem _ hu)
theorem fine_least {ps : List (Int × Int)} (h : ps ≠ []) (k : ∀ v ∈ ps, Fine v) : Fine (foldP pick ps) := by
  cases ps with
  | nil => exact absurd rfl h
  | cons v r => exact fine_fold r v (k v List.mem_cons_self) fun u hu => k u (List.mem_cons_of_mem _ hu)
/-- the items of a list or tuple, and their values -/
structure Nums (C : Addr) (H : Hp) (xs : List V) (ps : List (Int × Int)) : Prop where
  len : xs.length = ps.length
  at_ : ∀ (i : Nat) (x : V) (p : Int × Int), xs[i]? = some x → ps[i]? = some p → Num C H x p.1 p.2
  fine : ∀ p ∈ ps, Fine p
theorem Nums.on {C : Addr} {H H' : Hp} {xs : List V} {ps : List (Int × Int)} (n : Nums C H xs ps) (s : Same H H') : Nums C H' xs ps := ⟨n.len, fun i x p a b => (n.at_ i x p a b).on s, n.fine⟩
theorem RatAt.put {C : Addr} {H : Hp} {p D : Addr} {t b : Int} {ys zs : List V} (r : RatAt C H p t b) (h : H D = some (.lst ys)) : RatAt C (upd H D (.lst zs)) p t b := by
  obtain ⟨dx, e⟩ := r
  have n : p ≠ D := fun q => by rw [q, h] at e; cases e
  exact ⟨dx, by rw [upd_ne n]; exact e⟩
theorem Num.put {C : Addr} {H : Hp} {v : V} {D : Addr} {t b : Int} {ys zs : List V} (r : Num C H v t b) (h : H D = some (.lst ys)) : Num C (upd H D (.lst zs)) v t b := r.elim .inl fun ⟨p, e, r⟩ => .inr ⟨p, e, r.put h⟩
theorem Nums.put {C : Addr} {H : Hp} {D : Addr} {xs ys zs : List V} {ps : List (Int × Int)} (n : Nums C H xs ps) (h : H D = some (.lst ys)) : Nums C (upd H D (.lst zs)) xs ps := ⟨n.len, fun i x p a b => (n.at_ i x p a b).put h, n.fine⟩
theorem Nums.nil {C : Addr} {H : Hp} : Nums C H [] [] := ⟨rfl, fun i x p a _ => by simp at a, fun p h => by simp at h⟩
theorem Nums.cons {C : Addr} {H : Hp} {x : V} {p : Int × Int} {xs : List V} {ps : List (Int × Int)} (n : Num C H x p.1 p.2) (f : Fine p) (r : Nums C H xs ps) : Nums C H (x :: xs) (p :: ps) := by
  refine ⟨by rw [List.length_cons, List.length_cons, r.len], fun i y q a b => ?_, fun q h => ?_⟩
  · cases i with
    | zero =>
      simp at a b
      subst a; subst b
      exact n
    | succ i =>
      simp at a b
      exact r.at_ i y q a b
  · rcases List.mem_cons.mp h with rfl | h
    · exact f
    · exact r.fine q h
theorem Nums.snoc {C : Addr} {H : Hp} {x : V} {p : Int × Int} : ∀ {xs : List V} {ps : List (Int × Int)}, Nums C H xs ps → Num C H x p.1 p.2 → Fine p → Nums C H (xs ++ [x]) (ps ++ [p])
  | [], [], _, n, f => Nums.cons n f Nums.nil
  | [], _ :: _, r, _, _ => by have := r.len; simp at this
  | _ :: _, [], r, _, _ => by have := r.len; simp at this
  | y :: ys, q :: qs, r, n, f => by
    refine Nums.cons (r.at_ 0 y q rfl rfl) (r.fine q List.mem_cons_self) (Nums.snoc ⟨?_, fun i x p a b => r.at_ (i + 1) x p (by simpa using a) (by simpa using b), fun p h => r.fine p (List.mem_cons_of_mem _ h)⟩ n f)
    have := r.len
    simpa using this
theorem Nums.get {C : Addr} {H : Hp} {xs : List V} {ps : List (Int × Int)} (n : Nums C H xs ps) {i : Nat} {x : V} (h : xs[i]? = some x) : ∃ p, ps[i]? = some p ∧ Num C H x p.1 p.2 ∧ Fine p := by
  have hi : i < ps.length := by rw [← n.len]; exact (List.getElem?_eq_some_iff.mp h).1
  exact ⟨ps[i], List.getElem?_eq_getElem hi, n.at_ i x _ h (List.getElem?_eq_getElem hi), n.fine _ (List.getElem_mem hi)⟩
theorem fold_more {f : Int × Int → Int × Int → Int × Int} {l : List (Int × Int)} {i : Nat} {m v : Int × Int} (h : l[i]? = some v) : (l.take (i + 1)).foldl f m = f ((l.take i).foldl f m) v := by
  rw [take_more h, List.foldl_append]
  rfl
theorem nBe1 : (("below" : Str) == ("_top" : Str)) = false := by decide +kernel
theorem nBe2 : (("below" : Str) == ("_bottom" : Str)) = false := by decide +kernel
theorem rf_below (t b : Int) : (rf t b).lookup ("below" : Str) = none := by simp [rf, List.lookup, nBe1, nBe2]
theorem nOv1 : (("over" : Str) == ("_top" : Str)) = false := by decide +kernel
theorem nOv2 : (("over" : Str) == ("_bottom" : Str)) = false := by decide +kernel
theorem rf_over (t b : Int) : (rf t b).lookup ("over" : Str) = none := by simp [rf, List.lookup, nOv1, nOv2]
def SqA (K : PySem.W.Frag) (H : Hp) (l : Addr) (xs : List V) : Prop := SqL K H l xs ∨ SqT K H l xs
theorem ix_seq {H : Hp} {l : Addr} {xs : List V} {i : Int} {v : V} {Q : VK} (h : SqA K H l xs) (e : atI xs i = some v) (q : Q v H) : rIxL K (.ref l) (.int i) H Q ∨ rIxT K (.ref l) (.int i) H Q :=
  h.elim (fun h => .inl ⟨l, xs, i, v, rfl, rfl, h, e, q⟩) fun h => .inr ⟨l, xs, i, v, rfl, rfl, h, e, q⟩
def spLeast (K : PySem.W.Frag) (C : Addr) : Sp := fun vs H Q _ => ∃ (l : Addr) (xs : List V) (ps : List (Int × Int)), vs = [.ref l] ∧ SqA K H l xs ∧ xs ≠ [] ∧ Nums C H xs ps ∧ ∀ q H', Same H H' → RatAt C H' q (foldP pick ps).1 (foldP pick ps).2 → Q (.ref q) H'
theorem ok_least (T : Txt K mg) : FnOk P w K mg base CX0 5 T.f_least T.d_least ["values"] (spLeast K T.f_Ratio) := by
  have G_as_ratio : FnOk P w K mg base CX0 3 T.f_as_ratio T.d_as_ratio ["value"] (spNum T.f_Ratio) := ok_asN T
  have G_Ratio_below : FnOk P w K mg base CX0 4 T.f_Ratio_below T.d_Ratio_below ["self", "value"] (spBelow T.f_Ratio) := ok_below T
  refine T.F_least.ok sc_least (fun vs H Q E h => ?_) (fun cdv A outer s H vs Q E hr h => ?_)
  · obtain ⟨l, xs, ps, rfl, _⟩ := h
    rfl
  · obtain ⟨l, xs, ps, rfl, hS, hx, n, k⟩ := h
    refine ⟨_, PSs.nox (pss_cons (ps_if (pt_cmpR op_eq (pe_callB call_len_seq (by rfl) T.n_len (by decide +kernel) (pa_cons (pv 0) pa_nil)) pe_int (nomark _))
      (pss_one ps_never)
      pss_nil)
    (pss_cons (ps_set (i := 1) sc_least.nd rfl (Or.inl rfl) (pe_call G_as_ratio (hr.mono (by decide)) rfl T.m_as_ratio T.F_as_ratio.kp T.b_as_ratio .nil pass0 (pa_cons (pe_ix (ix_or ix_list ix_tup) (pv 0) pe_int (fun _ _ => rfl)) pa_nil)))
    (C8.pss_cut (ps_for PassesOwn.never rfl (pi_seq (pe_slice (sl_list.or sl_tupA) (pv 0) (po_some pe_int) po_none)) (pg_name (i := 2) sc_least.nd rfl (Or.inl rfl))
      (pss_cons (ps_set (i := 3) sc_least.nd rfl (Or.inl rfl) (pe_call G_as_ratio (hr.mono (by decide)) rfl T.m_as_ratio T.F_as_ratio.kp T.b_as_ratio .nil pass0 (pa_cons (pv 2) pa_nil)))
    (pss_one (ps_if (pt_val (pe_meth (pv 3) T.cl_Ratio T.me_Ratio_below G_Ratio_below (hr.mono (by decide)) T.b_Ratio_below .nil pass0 (pa_cons (pv 1) pa_nil)))
      (pss_one (ps_set (i := 1) sc_least.nd rfl (Or.inl rfl) (pv 3)))
      pss_nil))))
    (pss_one (ps_ret (pv 1)))))), ?_⟩
    cases xs with
    | nil => exact absurd rfl hx
    | cons x xr =>
    cases ps with
    | nil => have := n.len; simp at this
    | cons p pr =>
    have nr : Nums T.f_Ratio H xr pr := ⟨by have := n.len; simpa using this, fun i y q a b => n.at_ (i + 1) y q (by simpa using a) (by simpa using b), fun q h => n.fine q (List.mem_cons_of_mem _ h)⟩
    refine ⟨_, rfl, l, x :: xr, rfl, hS, rfl, _, rfl, ite2 (fun hz => ?_) fun _ => ?_⟩
    · have e := of_decide_eq_true hz
      injection e with e
      rw [List.length_cons] at e
      omega
    refine ⟨_, rfl, ix_seq hS at0 ?_⟩
    refine ⟨x, p.1, p.2, rfl, n.at_ 0 x p rfl rfl, fun q0 H1 s1 r1 => ?_⟩
    refine ⟨fun σ H' => ∃ (q : Addr) (x2 x3 : Option V), σ = [some (.ref l), some (.ref q), x2, x3] ∧ Same H H' ∧ RatAt T.f_Ratio H' q (foldP pick (p :: pr)).1 (foldP pick (p :: pr)).2, ?_, ?_⟩
    · have hc : cutV (x :: xr) (some 1) none = xr := cut1 _
      have turn : ∀ Hs, Same H Hs → ∀ i y σ H', xr[i]? = some y → (∃ (q : Addr) (x2 x3 : Option V), σ = [some (.ref l), some (.ref q), x2, x3] ∧ Same Hs H' ∧ RatAt T.f_Ratio H' q ((pr.take i).foldl pick p).1 ((pr.take i).foldl pick p).2 ∧ Fine ((pr.take i).foldl pick p)) →
          ∃ v, pr[i]? = some v ∧ Num T.f_Ratio H' y v.1 v.2 ∧ Fine v := fun Hs sh i y σ H' hy ⟨_, _, _, _, s', _, _⟩ => (nr.on (sh.trans s')).get hy
      have fin : ∀ {Hs : Hp}, Same H Hs → ∀ σ H', (∃ (q : Addr) (x2 x3 : Option V), σ = [some (.ref l), some (.ref q), x2, x3] ∧ Same Hs H' ∧ RatAt T.f_Ratio H' q ((pr.take xr.length).foldl pick p).1 ((pr.take xr.length).foldl pick p).2 ∧ Fine ((pr.take xr.length).foldl pick p)) →
          ∃ (q : Addr) (x2 x3 : Option V), σ = [some (.ref l), some (.ref q), x2, x3] ∧ Same H H' ∧ RatAt T.f_Ratio H' q (foldP pick (p :: pr)).1 (foldP pick (p :: pr)).2 := by
        rintro Hs sh σ H' ⟨q, x2, x3, e, s', r, f⟩
        rw [nr.len, List.take_length] at r
        exact ⟨q, x2, x3, e, sh.trans s', r⟩
      rcases hS with hL | hT
      · refine ⟨_, rfl, 1, rfl, .inl ⟨l, x :: xr, rfl, s1.seq hL, fun a ha => ?_⟩⟩
        have s2 : Same H (upd H1 a (.lst (cutV (x :: xr) (some 1) none))) := s1.trans (same_upd ha)
        rw [hc] at s2 ⊢
        refine ⟨a, rfl, .inl ⟨⟨_, SqL.of upd_same⟩, ?_⟩⟩
        refine for_list (xs := xr) (fun i σ H' => ∃ (q : Addr) (x2 x3 : Option V), σ = [some (.ref l), some (.ref q), x2, x3] ∧ Same (upd H1 a (.lst xr)) H' ∧ RatAt T.f_Ratio H' q ((pr.take i).foldl pick p).1 ((pr.take i).foldl pick p).2 ∧ Fine ((pr.take i).foldl pick p)) ⟨q0, none, none, rfl, Same.refl _, r1.on (same_upd ha), n.fine p List.mem_cons_self⟩ (fun i σ H' _ ⟨_, _, _, _, s', _⟩ => SqL.of (s' _ _ upd_same)) (fun i y σ H' hy hP => ?_) (fin s2)
        obtain ⟨v, hv, nv, fv⟩ := turn _ s2 i y σ H' hy hP
        obtain ⟨q, x2, x3, rfl, s', rq, fq⟩ := hP
        refine ⟨_, rfl, y, v.1, v.2, rfl, nv, fun q2 H2 s2' r2 => ?_⟩
        obtain ⟨d2, h2⟩ := id r2
        refine ⟨_, rfl, q2, d2, _, rfl, h2, rf_below _ _, _, rfl, q2, _, v.1, v.2, _, _, rfl, r2, .inr ⟨q, rfl, rq.on s2'⟩, fv.2.1, fv.2.2, fq.2.1, fq.2.2, fun H3 s3 => ⟨_, rfl, ?_⟩⟩
        rw [fold_more hv]
        unfold pick at fq rq ⊢
        refine ite2 (fun hb => ?_) fun hb => ?_
        · rw [if_pos (of_decide_eq_true hb)]
          exact ⟨_, rfl, q2, _, _, rfl, (s'.trans s2').trans s3, r2.on s3, fv⟩
        · rw [if_neg fun z => hb (decide_eq_true z)]
          exact ⟨q, _, _, rfl, (s'.trans s2').trans s3, (rq.on s2').on s3, fq⟩
      · refine ⟨_, rfl, 1, rfl, .inr ⟨l, x :: xr, rfl, hT.ext s1, fun hw => ?_, fun _ a ha => ?_⟩⟩
        · exfalso
          have e : HT.sIx (x :: xr).length 0 (some 1) = min 1 (x :: xr).length := HT.sIx_nat (x :: xr).length 0 1
          have := hw.1
          rw [e, List.length_cons] at this
          omega
        have s2 : Same H (upd H1 a (.tup (cutV (x :: xr) (some 1) none))) := s1.trans (same_upd ha)
        rw [hc] at s2 ⊢
        refine ⟨a, rfl, .inr ⟨⟨_, SqT.of upd_same⟩, ?_⟩⟩
        refine for_tup (xs := xr) (fun i σ H' => ∃ (q : Addr) (x2 x3 : Option V), σ = [some (.ref l), some (.ref q), x2, x3] ∧ Same (upd H1 a (.tup xr)) H' ∧ RatAt T.f_Ratio H' q ((pr.take i).foldl pick p).1 ((pr.take i).foldl pick p).2 ∧ Fine ((pr.take i).foldl pick p)) ⟨q0, none, none, rfl, Same.refl _, r1.on (same_upd ha), n.fine p List.mem_cons_self⟩ (fun i σ H' _ ⟨_, _, _, _, s', _⟩ => SqT.of (s' _ _ upd_same)) (fun i y σ H' hy hP => ?_) (fin s2)
        obtain ⟨v, hv, nv, fv⟩ := turn _ s2 i y σ H' hy hP
        obtain ⟨q, x2, x3, rfl, s', rq, fq⟩ := hP
        refine ⟨_, rfl, y, v.1, v.2, rfl, nv, fun q2 H2 s2' r2 => ?_⟩
        obtain ⟨d2, h2⟩ := id r2
        refine ⟨_, rfl, q2, d2, _, rfl, h2, rf_below _ _, _, rfl, q2, _, v.1, v.2, _, _, rfl, r2, .inr ⟨q, rfl, rq.on s2'⟩, fv.2.1, fv.2.2, fq.2.1, fq.2.2, fun H3 s3 => ⟨_, rfl, ?_⟩⟩
        rw [fold_more hv]
        unfold pick at fq rq ⊢
        refine ite2 (fun hb => ?_) fun hb => ?_
        · rw [if_pos (of_decide_eq_true hb)]
          exact ⟨_, rfl, q2, _, _, rfl, (s'.trans s2').trans s3, r2.on s3, fv⟩
        · rw [if_neg fun z => hb (decide_eq_true z)]
          exact ⟨q, _, _, rfl, (s'.trans s2').trans s3, (rq.on s2').on s3, fq⟩
    · rintro σ H' ⟨q, x2, x3, rfl, s', rq⟩
      exact ⟨_, rfl, k q H' s' rq⟩
end

section
variable {P : Program} {w : World} {K : PySem.W.Frag} {mg : Str → Option Value} {base : Heap}
def spGreat (K : PySem.W.Frag) (C : Addr) : Sp := fun vs H Q _ => ∃ (l : Addr) (xs : List V) (ps : List (Int × Int)), vs = [.ref l] ∧ SqA K H l xs ∧ xs ≠ [] ∧ xs.length ≤ 900 ∧ Nums C H xs ps ∧ ∀ q H', Same H H' → RatAt C H' q (foldP pickG ps).1 (foldP pickG ps).2 → Q (.ref q) H'
theorem ok_greatest (T : Txt K mg) : FnOk P w K mg base CX0 6 T.f_greatest T.d_greatest ["values"] (spGreat K T.f_Ratio) := by
  have G_least : FnOk P w K mg base CX0 5 T.f_least T.d_least ["values"] (spLeast K T.f_Ratio) := ok_least T
  have G_Ratio_neg : FnOk P w K mg base CX0 3 T.f_Ratio_neg T.d_Ratio_neg ["self"] (spNeg T.f_Ratio) := ok_neg T
  refine T.F_greatest.ok sc_greatest (fun vs H Q E h => ?_) (fun cdv A outer s H vs Q E hr h => ?_)
  · obtain ⟨l, xs, ps, rfl, _⟩ := h
    rfl
  · obtain ⟨l, xs, ps, rfl, hS, hx, hlen, n, k⟩ := h
    refine ⟨_, (pss_one (ps_ret (pe_un (un_negO T.a_Ratio_neg T.i_Ratio_neg G_Ratio_neg (hr.mono (by decide)) T.b_Ratio_neg pass0) (pe_call G_least (hr.mono (by decide)) rfl T.m_least T.F_least.kp T.b_least .nil pass0 (pa_cons (pe_lc (own := [("value", 1)]) (g := gName 1) (tt := tYes) rfl sc_greatest.nd (pi_seq (pv 0)) (blkOk_by (N := ["values", "value"]) (sc := defScope s_greatest) (by decide +kernel)) (fun _ _ _ _ _ => pg_name (i := 1) sc_greatest.nd rfl (Or.inl rfl)) (fun _ _ _ _ _ => pts_nil) (fun _ _ _ _ _ => (pe_un (un_or un_neg (un_negO T.a_Ratio_neg T.i_Ratio_neg G_Ratio_neg (hr.mono (by decide)) T.b_Ratio_neg pass0)) (pv 1)))) pa_nil))))), ?_⟩
    have hps : ps ≠ [] := fun e => hx (List.length_eq_zero_iff.mp (by rw [n.len, e]; rfl))
    have turn : ∀ D, H D = none → ∀ i x H1, xs[i]? = some x → (∃ ys, H1 D = some (.lst ys) ∧ ys.length = i ∧ Nums T.f_Ratio H1 ys ((ps.take i).map ngP) ∧ Same H H1) → ∃ p : Int × Int, Num T.f_Ratio H1 x p.1 p.2 ∧ Fine p ∧
        ∀ H2 v, Same H1 H2 → Num T.f_Ratio H2 v (ngP p).1 (ngP p).2 → ∃ acc, H2 D = some (.lst acc) ∧ acc.length < sizeLine ∧ (∃ ys, (upd H2 D (.lst (acc ++ [v]))) D = some (.lst ys) ∧ ys.length = i + 1 ∧ Nums T.f_Ratio (upd H2 D (.lst (acc ++ [v]))) ys ((ps.take (i + 1)).map ngP) ∧ Same H (upd H2 D (.lst (acc ++ [v])))) := by
      rintro D hD i x H1 hi ⟨ys, eD, ly, nys, sm⟩
      obtain ⟨p, hp, np, fp⟩ := (n.on sm).get hi
      refine ⟨p, np, fp, fun H2 v s2 nv => ⟨ys, s2 _ _ eD, ?_, ys ++ [v], upd_same, by rw [List.length_append, ly]; rfl, ?_, same_mut (sm.trans s2) hD⟩⟩
      · have := (List.getElem?_eq_some_iff.mp hi).1
        exact small1000 (by omega)
      · rw [take_more hp, List.map_append]
        exact ((nys.on s2).snoc nv fp.ng).put (s2 _ _ eD)
    have fin : ∀ D H1, (∃ ys, H1 D = some (.lst ys) ∧ ys.length = xs.length ∧ Nums T.f_Ratio H1 ys ((ps.take xs.length).map ngP) ∧ Same H H1) → ∃ ys, SqA K H1 D ys ∧ ys ≠ [] ∧ Nums T.f_Ratio H1 ys (ps.map ngP) ∧ Same H H1 := by
      rintro D H1 ⟨ys, eD, ly, nys, sm⟩
      rw [n.len, List.take_length] at nys
      refine ⟨ys, .inl (SqL.of eD), fun e => hx (List.length_eq_zero_iff.mp (by rw [← ly, e]; rfl)), nys, sm⟩
    have hfl : Fine (foldP pick (ps.map ngP)) := fine_least (fun e => hps (List.map_eq_nil_iff.mp e)) fun v hv => by
      obtain ⟨u, hu, rfl⟩ := List.mem_map.mp hv
      exact (n.fine u hu).ng
    have back : ∀ q H', Same H H' → RatAt T.f_Ratio H' q (-(foldP pick (ps.map ngP)).1) (foldP pick (ps.map ngP)).2 → Q (.ref q) H' := fun q H' s r => by
      rw [least_neg hps] at r
      have e : -(ngP (foldP pickG ps)).1 = (foldP pickG ps).1 := Int.neg_neg _
      rw [e] at r
      exact k q H' s r
    rcases hS with hL | hT
    · refine ⟨_, rfl, l, rfl, .inl ⟨⟨_, hL⟩, fun D hD => ?_⟩⟩
      refine lc_list (K := K) (a := l) (xs := xs) (fun i H1 => ∃ ys, H1 D = some (.lst ys) ∧ ys.length = i ∧ Nums T.f_Ratio H1 ys ((ps.take i).map ngP) ∧ Same H H1) ⟨[], upd_same, rfl, Nums.nil, same_upd hD⟩ (fun i H1 _ ⟨_, _, _, _, sm⟩ => sm.seq hL) ?_ ?_
      · intro i x H1 hi hP
        obtain ⟨p, np, fp, go⟩ := turn D hD i x H1 hi hP
        rcases np with ⟨rfl, e1⟩ | ⟨q, rfl, rq⟩
        · exact ⟨rfl, _, rfl, .inl ⟨p.1, rfl, go H1 _ (Same.refl _) (.inl ⟨rfl, e1⟩)⟩⟩
        · obtain ⟨dq, hq⟩ := id rq
          exact ⟨rfl, _, rfl, .inr ⟨q, dq, _, rfl, hq, q, p.1, p.2, rfl, rq, fp.1, fp.2.2, fun o H2 no s2 ro => go H2 _ s2 (.inr ⟨o, rfl, ro⟩)⟩⟩
      · intro H1 hP
        obtain ⟨ys, hA, hy, nys, sm⟩ := fin D H1 hP
        refine ⟨D, ys, ps.map ngP, rfl, hA, hy, nys, fun q H2 s2 r2 => ?_⟩
        obtain ⟨d2, h2⟩ := id r2
        exact ⟨q, d2, _, rfl, h2, q, _, _, rfl, r2, hfl.1, hfl.2.2, fun o H3 no s3 ro => back o H3 ((sm.trans s2).trans s3) ro⟩
    · refine ⟨_, rfl, l, rfl, .inr ⟨⟨_, hT⟩, fun D hD => ?_⟩⟩
      refine lc_tup (K := K) (a := l) (xs := xs) (fun i H1 => ∃ ys, H1 D = some (.lst ys) ∧ ys.length = i ∧ Nums T.f_Ratio H1 ys ((ps.take i).map ngP) ∧ Same H H1) ⟨[], upd_same, rfl, Nums.nil, same_upd hD⟩ (fun i H1 _ ⟨_, _, _, _, sm⟩ => hT.ext sm) ?_ ?_
      · intro i x H1 hi hP
        obtain ⟨p, np, fp, go⟩ := turn D hD i x H1 hi hP
        rcases np with ⟨rfl, e1⟩ | ⟨q, rfl, rq⟩
        · exact ⟨rfl, _, rfl, .inl ⟨p.1, rfl, go H1 _ (Same.refl _) (.inl ⟨rfl, e1⟩)⟩⟩
        · obtain ⟨dq, hq⟩ := id rq
          exact ⟨rfl, _, rfl, .inr ⟨q, dq, _, rfl, hq, q, p.1, p.2, rfl, rq, fp.1, fp.2.2, fun o H2 no s2 ro => go H2 _ s2 (.inr ⟨o, rfl, ro⟩)⟩⟩
      · intro H1 hP
        obtain ⟨ys, hA, hy, nys, sm⟩ := fin D H1 hP
        refine ⟨D, ys, ps.map ngP, rfl, hA, hy, nys, fun q H2 s2 r2 => ?_⟩
        obtain ⟨d2, h2⟩ := id r2
        exact ⟨q, d2, _, rfl, h2, q, _, _, rfl, r2, hfl.1, hfl.2.2, fun o H3 no s3 ro => back o H3 ((sm.trans s2).trans s3) ro⟩
end

/-! ### pairs of ints -/
section
variable {P : Program} {w : World} {K : PySem.W.Frag} {mg : Str → Option Value} {base : Heap}
def PairAt (H : Hp) (q : Addr) (t b : Int) : Prop := H q = some (.tup [.int t, .int b])
def ResP (H : Hp) (x y : Int) (Q : VK) : Prop := ∀ o H', H o = none → Same H H' → PairAt H' o (lowT x y) (lowB x y) → Q (.ref o) H'
def spPlus : Sp := fun vs H Q _ => ∃ (q q' : Addr) (t b t' b' : Int), vs = [.ref q, .ref q'] ∧ PairAt H q t b ∧ PairAt H q' t' b' ∧ SM t ∧ SM b ∧ SM t' ∧ SM b' ∧ b ≠ 0 ∧ b' ≠ 0 ∧ ResP H (t * b' + t' * b) (b * b') Q
def spTimes : Sp := fun vs H Q _ => ∃ (q q' : Addr) (t b t' b' : Int), vs = [.ref q, .ref q'] ∧ PairAt H q t b ∧ PairAt H q' t' b' ∧ SM t ∧ SM b ∧ SM t' ∧ SM b' ∧ b ≠ 0 ∧ b' ≠ 0 ∧ ResP H (t * t') (b * b') Q
def spLess : Sp := fun vs H Q _ => ∃ (q q' : Addr) (t b t' b' : Int), vs = [.ref q, .ref q'] ∧ PairAt H q t b ∧ PairAt H q' t' b' ∧ SM t ∧ SM b ∧ SM t' ∧ SM b' ∧ Q (.bl (decide (t * b' < t' * b))) H
theorem ok_plus (T : Txt K mg) : FnOk P w K mg base CX0 2 T.f_plus T.d_plus ["_law_one", "_law_two"] spPlus := by
  have G_low : FnOk P w K mg base CX0 1 T.f_low T.d_low ["_law_up", "_law_down"] spLow := ok_low T
  refine T.F_plus.ok sc_plus (fun vs H Q E h => ?_) (fun cdv A outer s H vs Q E hr h => ?_)
  · obtain ⟨q, q', t, b, t', b', rfl, _⟩ := h
    rfl
  · obtain ⟨q, q', t, b, t', b', rfl, hq, hq', ht, hb, ht', hb', h0, h0', k⟩ := h
    refine ⟨_, (pss_one (ps_ret (pe_call G_low (hr.mono (by decide)) rfl T.m_low T.F_low.kp T.b_low .nil pass0 (pa_cons (pe_op op_add (pe_op op_mulW (pe_ix ix_tup (pv 0) pe_int (fun _ _ => rfl)) (pe_ix ix_tup (pv 1) pe_int (fun _ _ => rfl))) (pe_op op_mulW (pe_ix ix_tup (pv 1) pe_int (fun _ _ => rfl)) (pe_ix ix_tup (pv 0) pe_int (fun _ _ => rfl)))) (pa_cons (pe_op op_mulW (pe_ix ix_tup (pv 0) pe_int (fun _ _ => rfl)) (pe_ix ix_tup (pv 1) pe_int (fun _ _ => rfl))) pa_nil))))), ?_⟩
    refine ⟨_, rfl, q, _, 0, .int t, rfl, rfl, SqT.of hq, rfl, _, rfl, q', _, 1, .int b', rfl, rfl, SqT.of hq', rfl, _, _, rfl, rfl, sm_mul ht hb', ?_⟩
    refine ⟨_, rfl, q', _, 0, .int t', rfl, rfl, SqT.of hq', rfl, _, rfl, q, _, 1, .int b, rfl, rfl, SqT.of hq, rfl, _, _, rfl, rfl, sm_mul ht' hb, _, _, rfl, rfl, ?_⟩
    refine ⟨_, rfl, q, _, 1, .int b, rfl, rfl, SqT.of hq, rfl, _, rfl, q', _, 1, .int b', rfl, rfl, SqT.of hq', rfl, _, _, rfl, rfl, sm_mul hb hb', ?_⟩
    exact ⟨_, _, rfl, Int.mul_ne_zero h0 h0', big_mul hb hb', k⟩
theorem ok_times (T : Txt K mg) : FnOk P w K mg base CX0 2 T.f_times T.d_times ["_law_one", "_law_two"] spTimes := by
  have G_low : FnOk P w K mg base CX0 1 T.f_low T.d_low ["_law_up", "_law_down"] spLow := ok_low T
  refine T.F_times.ok sc_times (fun vs H Q E h => ?_) (fun cdv A outer s H vs Q E hr h => ?_)
  · obtain ⟨q, q', t, b, t', b', rfl, _⟩ := h
    rfl
  · obtain ⟨q, q', t, b, t', b', rfl, hq, hq', ht, hb, ht', hb', h0, h0', k⟩ := h
    refine ⟨_, (pss_one (ps_ret (pe_call G_low (hr.mono (by decide)) rfl T.m_low T.F_low.kp T.b_low .nil pass0 (pa_cons (pe_op op_mulW (pe_ix ix_tup (pv 0) pe_int (fun _ _ => rfl)) (pe_ix ix_tup (pv 1) pe_int (fun _ _ => rfl))) (pa_cons (pe_op op_mulW (pe_ix ix_tup (pv 0) pe_int (fun _ _ => rfl)) (pe_ix ix_tup (pv 1) pe_int (fun _ _ => rfl))) pa_nil))))), ?_⟩
    refine ⟨_, rfl, q, _, 0, .int t, rfl, rfl, SqT.of hq, rfl, _, rfl, q', _, 0, .int t', rfl, rfl, SqT.of hq', rfl, _, _, rfl, rfl, sm_mul ht ht', ?_⟩
    refine ⟨_, rfl, q, _, 1, .int b, rfl, rfl, SqT.of hq, rfl, _, rfl, q', _, 1, .int b', rfl, rfl, SqT.of hq', rfl, _, _, rfl, rfl, sm_mul hb hb', ?_⟩
    exact ⟨_, _, rfl, Int.mul_ne_zero h0 h0', big_mul hb hb', k⟩
theorem ok_less (T : Txt K mg) : FnOk P w K mg base CX0 1 T.f_less T.d_less ["_law_one", "_law_two"] spLess := by
  refine T.F_less.ok sc_less (fun vs H Q E h => ?_) (fun cdv A outer s H vs Q E hr h => ?_)
  · obtain ⟨q, q', t, b, t', b', rfl, _⟩ := h
    rfl
  · obtain ⟨q, q', t, b, t', b', rfl, hq, hq', ht, hb, ht', hb', k⟩ := h
    refine ⟨_, (pss_one (ps_ret (pe_cmpR op_lt (pe_op op_mulW (pe_ix ix_tup (pv 0) pe_int (fun _ _ => rfl)) (pe_ix ix_tup (pv 1) pe_int (fun _ _ => rfl))) (pe_op op_mulW (pe_ix ix_tup (pv 1) pe_int (fun _ _ => rfl)) (pe_ix ix_tup (pv 0) pe_int (fun _ _ => rfl))) (nomark _)))), ?_⟩
    refine ⟨_, rfl, q, _, 0, .int t, rfl, rfl, SqT.of hq, rfl, _, rfl, q', _, 1, .int b', rfl, rfl, SqT.of hq', rfl, _, _, rfl, rfl, sm_mul ht hb', ?_⟩
    exact ⟨_, rfl, q', _, 0, .int t', rfl, rfl, SqT.of hq', rfl, _, rfl, q, _, 1, .int b, rfl, rfl, SqT.of hq, rfl, _, _, rfl, rfl, sm_mul ht' hb, _, _, rfl, rfl, k⟩
end

/-! ### the three registers -/
section
variable {P : Program} {w : World} {K : PySem.W.Frag} {mg : Str → Option Value} {base : Heap}
theorem PairAt.on {H H' : Hp} {q : Addr} {t b : Int} (p : PairAt H q t b) (s : Same H H') : PairAt H' q t b := s _ _ p
theorem PairAt.put {H : Hp} {q D : Addr} {t b : Int} {ys zs : List V} (p : PairAt H q t b) (h : H D = some (.lst ys)) : PairAt (upd H D (.lst zs)) q t b := by
  have n : q ≠ D := fun e => by
    unfold PairAt at p
    rw [e, h] at p
    cases p
  unfold PairAt
  rw [upd_ne n]
  exact p
theorem at3 {f : Nat → V} : ∀ {j : Nat}, j < 3 → atI [f 0, f 1, f 2] (j : Int) = some (f j)
  | 0, _ => rfl
  | 1, _ => rfl
  | 2, _ => rfl
  | _ + 3, h => by omega
theorem set3 {f : Nat → Addr} {x : Addr} : ∀ {j : Nat}, j < 3 → [V.ref (f 0), .ref (f 1), .ref (f 2)].set j (.ref x) = [V.ref (if 0 = j then x else f 0), .ref (if 1 = j then x else f 1), .ref (if 2 = j then x else f 2)]
  | 0, _ => rfl
  | 1, _ => rfl
  | 2, _ => rfl
  | _ + 3, h => by omega
structure Regs (C : Addr) (H : Hp) (lr lp : Addr) (r q : Nat → Addr) (t b : Nat → Int) : Prop where
  hr : H lr = some (.lst [.ref (r 0), .ref (r 1), .ref (r 2)])
  hp : H lp = some (.lst [.ref (q 0), .ref (q 1), .ref (q 2)])
  ne : lr ≠ lp
  ra : ∀ i, i < 3 → RatAt C H (r i) (t i) (b i)
  pa : ∀ i, i < 3 → PairAt H (q i) (t i) (b i)
  low : ∀ i, i < 3 → Low (t i) (b i)
  st : ∀ i, i < 3 → (t i).natAbs < 10 ^ 41
  sb : ∀ i, i < 3 → (b i).natAbs < 10 ^ 41
theorem Regs.on {C : Addr} {H H' : Hp} {lr lp : Addr} {r q : Nat → Addr} {t b : Nat → Int} (g : Regs C H lr lp r q t b) (s : Same H H') : Regs C H' lr lp r q t b :=
  ⟨s _ _ g.hr, s _ _ g.hp, g.ne, fun i h => (g.ra i h).on s, fun i h => (g.pa i h).on s, g.low, g.st, g.sb⟩
theorem sm41 {a : Int} (h : a.natAbs < 10 ^ 41) : SM a := Nat.lt_trans h (by decide +kernel)
theorem b64_41 {a : Int} (h : a.natAbs < 10 ^ 41) : a.natAbs < 10 ^ 64 := Nat.lt_trans h (by decide +kernel)
theorem eqv2 (a b c d : Int) : PyData.eqv (dat2 a b) (dat2 c d) = decide (a = c ∧ b = d) := by
  simp only [dat2, PyData.eqv, PyData.eqvAll, Bool.and_true]
  rw [Bool.decide_and, ← Bool.beq_eq_decide_eq, ← Bool.beq_eq_decide_eq]
theorem sgn_eq (t : Int) : (if decide (0 < t) = true then (1 : Int) else 0) - (if decide (t < 0) = true then 1 else 0) = sgnI t := by
  unfold sgnI
  by_cases h1 : t < 0
  · rw [if_pos h1, decide_eq_true h1, decide_eq_false (show ¬ 0 < t by omega)]; rfl
  · rw [if_neg h1, decide_eq_false h1]
    by_cases h2 : 0 < t
    · rw [if_pos h2, decide_eq_true h2]; rfl
    · rw [if_neg h2, decide_eq_false h2]; rfl
def spAgrees (C : Addr) : Sp := fun vs H Q _ => ∃ (lr lp : Addr) (r q : Nat → Addr) (t b : Nat → Int), vs = [.ref lr, .ref lp] ∧ Regs C H lr lp r q t b ∧ ∀ H', Same H H' → Q (.bl true) H'
theorem ok_agrees (T : Txt K mg) : FnOk P w K mg base CX0 5 T.f_agrees T.d_agrees ["_law_ratios", "_law_pairs"] (spAgrees T.f_Ratio) := by
  have G_is : FnOk P w K mg base CX0 3 T.f_is T.d_is ["_law_actual", "_law_pair"] (spIs T.f_Ratio) := ok_is T
  have G_text : FnOk P w K mg base CX0 1 T.f_text T.d_text ["_law_pair"] spText := ok_text T
  have G_less : FnOk P w K mg base CX0 1 T.f_less T.d_less ["_law_one", "_law_two"] spLess := ok_less T
  have G_Ratio_sign : FnOk P w K mg base CX0 1 T.f_Ratio_sign T.d_Ratio_sign ["self"] (spSign T.f_Ratio) := ok_sign T
  have G_Ratio_str : FnOk P w K mg base CX0 2 T.f_Ratio_str T.d_Ratio_str ["self"] (spStr T.f_Ratio) := ok_str T
  have G_Ratio_eq : FnOk P w K mg base CX0 1 T.f_Ratio_eq T.d_Ratio_eq ["self", "other"] (spEqB T.f_Ratio) := ok_eqB T
  have G_Ratio_below : FnOk P w K mg base CX0 4 T.f_Ratio_below T.d_Ratio_below ["self", "value"] (spBelow T.f_Ratio) := ok_below T
  refine T.F_agrees.ok sc_agrees (fun vs H Q E h => ?_) (fun cdv A outer s H vs Q E hr h => ?_)
  · obtain ⟨lr, lp, r, q, t, b, rfl, _⟩ := h
    rfl
  · obtain ⟨lr, lp, r, q, t, b, rfl, g0, k⟩ := h
    refine ⟨_, (C8.pss_cut (ps_for PassesOwn.never rfl (pi_range1 rfl T.n_range (pa_cons pe_int pa_nil)) (pg_name (i := 2) sc_agrees.nd rfl (Or.inl rfl))
      (pss_cons (ps_if (PW.pt (pw_or (pt_not (pt_val (pe_call G_is (hr.mono (by decide)) rfl T.m_is T.F_is.kp T.b_is .nil pass0 (pa_cons (pe_ix ix_list (pv 0) (pv 2) (fun _ _ => rfl)) (pa_cons (pe_ix ix_list (pv 1) (pv 2) (fun _ _ => rfl)) pa_nil))))) (pw_or1 (pt_cmpR op_ne (pe_callTy (call_strO T.a_Ratio_str T.i_Ratio_str G_Ratio_str (hr.mono (by decide)) T.b_Ratio_str pass0) (by rfl) T.n_str (by decide +kernel) (pa_cons (pe_ix ix_list (pv 0) (pv 2) (fun _ _ => rfl)) pa_nil)) (pe_call G_text (hr.mono (by decide)) rfl T.m_text T.F_text.kp T.b_text .nil pass0 (pa_cons (pe_ix ix_list (pv 1) (pv 2) (fun _ _ => rfl)) pa_nil)) (nomark _)))))
      (pss_one (ps_ret pe_bl))
      pss_nil)
    (pss_cons (ps_if (pt_cmpR op_ne (pe_prop (pe_ix ix_list (pv 0) (pv 2) (fun _ _ => rfl)) T.cl_Ratio T.p_Ratio_sign G_Ratio_sign (hr.mono (by decide)) T.b_Ratio_sign .nil pass0 rfl) (pe_op op_sub (pe_callTy call_int1 (by rfl) T.n_int (by decide +kernel) (pa_cons (pe_cmpR op_gt (pe_ix ix_tup (pe_ix ix_list (pv 1) (pv 2) (fun _ _ => rfl)) pe_int (fun _ _ => rfl)) pe_int (nomark _)) pa_nil)) (pe_callTy call_int1 (by rfl) T.n_int (by decide +kernel) (pa_cons (pe_cmpR op_lt (pe_ix ix_tup (pe_ix ix_list (pv 1) (pv 2) (fun _ _ => rfl)) pe_int (fun _ _ => rfl)) pe_int (nomark _)) pa_nil))) (nomark _))
      (pss_one (ps_ret pe_bl))
      pss_nil)
    (pss_one (ps_for PassesOwn.never rfl (pi_range1 rfl T.n_range (pa_cons pe_int pa_nil)) (pg_name (i := 3) sc_agrees.nd rfl (Or.inl rfl))
      (pss_cons (ps_if (pt_cmpR op_ne (pe_cmpR (cmp_own T.a_Ratio_eq T.i_Ratio_eq G_Ratio_eq (hr.mono (by decide)) T.b_Ratio_eq pass0) (pe_ix ix_list (pv 0) (pv 2) (fun _ _ => rfl)) (pe_ix ix_list (pv 0) (pv 3) (fun _ _ => rfl)) (nomark _)) (pe_cmpR (op_eqD hr.units) (pe_ix ix_list (pv 1) (pv 2) (fun _ _ => rfl)) (pe_ix ix_list (pv 1) (pv 3) (fun _ _ => rfl)) (nomark _)) (nomark _))
      (pss_one (ps_ret pe_bl))
      pss_nil)
    (pss_one (ps_if (pt_cmpR op_ne (pe_meth (pe_ix ix_list (pv 0) (pv 2) (fun _ _ => rfl)) T.cl_Ratio T.me_Ratio_below G_Ratio_below (hr.mono (by decide)) T.b_Ratio_below .nil pass0 (pa_cons (pe_ix ix_list (pv 0) (pv 3) (fun _ _ => rfl)) pa_nil)) (pe_call G_less (hr.mono (by decide)) rfl T.m_less T.F_less.kp T.b_less .nil pass0 (pa_cons (pe_ix ix_list (pv 1) (pv 2) (fun _ _ => rfl)) (pa_cons (pe_ix ix_list (pv 1) (pv 3) (fun _ _ => rfl)) pa_nil))) (nomark _))
      (pss_one (ps_ret pe_bl))
      pss_nil))))))))
    (pss_one (ps_ret pe_bl))), ?_⟩
    refine ⟨fun σ H' => Same H H', ?_, fun σ H' s => k H' s⟩
    refine ⟨_, rfl, by decide, by decide, ?_⟩
    refine for_range (lo := 0) (n := 3) (fun _ σ H' => ∃ x2 x3, σ = [some (.ref lr), some (.ref lp), x2, x3] ∧ Same H H') ⟨none, none, rfl, Same.refl H⟩ ?_ (fun σ H' ⟨_, _, _, s⟩ => s)
    rintro i σ H' hi ⟨x2, x3, rfl, s0⟩
    rw [Int.zero_add]
    have g := g0.on s0
    obtain ⟨dx, hx⟩ := id (g.ra i hi)
    have ari := at3 (f := fun j => V.ref (r j)) hi
    have aqi := at3 (f := fun j => V.ref (q j)) hi
    have sti := sm41 (g.st i hi)
    have sbi := sm41 (g.sb i hi)
    -- the parts
    refine ⟨_, rfl, _, rfl, lr, _, i, .ref (r i), rfl, rfl, SqL.of g.hr, ari, _, rfl, _, rfl, lp, _, i, .ref (q i), rfl, rfl, SqL.of g.hp, aqi, r i, q i, t i, b i, rfl, g.ra i hi, g.pa i hi, fun H1 s1 => ⟨_, rfl, iteF ?_⟩⟩
    have g1 := g.on s1
    refine ⟨_, rfl, _, rfl, lr, _, i, .ref (r i), rfl, rfl, SqL.of g1.hr, ari, r i, dx, _, rfl, s1 _ _ hx, r i, t i, b i, rfl, g1.ra i hi, b64_41 (g.st i hi), b64_41 (g.sb i hi), fun H2 s2 => ⟨_, rfl, ?_⟩⟩
    have g2 := g1.on s2
    refine ⟨_, rfl, _, rfl, lp, _, i, .ref (q i), rfl, rfl, SqL.of g2.hp, aqi, q i, t i, b i, rfl, g2.pa i hi, b64_41 (g.st i hi), b64_41 (g.sb i hi), rfl, _, rfl, iteNS rfl ?_⟩
    -- the sign
    refine ⟨_, rfl, _, rfl, lr, _, i, .ref (r i), rfl, rfl, SqL.of g2.hr, ari, r i, dx, _, rfl, s2 _ _ (s1 _ _ hx), r i, t i, b i, rfl, g2.ra i hi, ?_⟩
    refine ⟨_, rfl, _, rfl, lp, _, i, .ref (q i), rfl, rfl, SqL.of g2.hp, aqi, q i, _, 0, .int (t i), rfl, rfl, SqT.of (g2.pa i hi), rfl, t i, 0, rfl, rfl, .inr ⟨_, rfl, ?_⟩⟩
    refine ⟨_, rfl, _, rfl, lp, _, i, .ref (q i), rfl, rfl, SqL.of g2.hp, aqi, q i, _, 0, .int (t i), rfl, rfl, SqT.of (g2.pa i hi), rfl, t i, 0, rfl, rfl, .inr ⟨_, rfl, _, _, rfl, rfl, rfl, _, rfl, iteNS (congrArg V.int (sgn_eq _).symm) ?_⟩⟩
    -- against each
    refine ⟨_, rfl, by decide, by decide, ?_⟩
    refine for_range (lo := 0) (n := 3) (fun _ σ H' => ∃ x3, σ = [some (.ref lr), some (.ref lp), some (.int (i : Int)), x3] ∧ Same H2 H') ⟨_, rfl, Same.refl H2⟩ ?_ (fun σ H' ⟨_, e, s⟩ => ⟨_, _, e, ((s0.trans s1).trans s2).trans s⟩)
    rintro j σ H3 hj ⟨x3', rfl, s3⟩
    rw [Int.zero_add]
    have g3 := g2.on s3
    obtain ⟨di, hii⟩ := id (g3.ra i hi)
    obtain ⟨dj, hjj⟩ := id (g3.ra j hj)
    have arj := at3 (f := fun j => V.ref (r j)) hj
    have aqj := at3 (f := fun j => V.ref (q j)) hj
    have stj := sm41 (g.st j hj)
    have sbj := sm41 (g.sb j hj)
    refine ⟨_, rfl, _, rfl, lr, _, i, .ref (r i), rfl, rfl, SqL.of g3.hr, ari, _, rfl, _, rfl, lr, _, j, .ref (r j), rfl, rfl, SqL.of g3.hr, arj, r i, di, _, r j, dj, _, rfl, rfl, hii, hjj, r i, r j, t i, b i, t j, b j, rfl, g3.ra i hi, g3.ra j hj, ?_⟩
    refine ⟨_, rfl, _, rfl, lp, _, i, .ref (q i), rfl, rfl, SqL.of g3.hp, aqi, _, rfl, _, rfl, lp, _, j, .ref (q j), rfl, rfl, SqL.of g3.hp, aqj, dat2 (t i) (b i), dat2 (t j) (b j), dp2 (g3.pa i hi), dp2 (g3.pa j hj), sh2 _ _, sh2 _ _, rfl, _, rfl, iteNS (by rw [eqv2]) ?_⟩
    refine ⟨_, rfl, _, rfl, lr, _, i, .ref (r i), rfl, rfl, SqL.of g3.hr, ari, r i, di, _, rfl, hii, rf_below _ _, _, rfl, _, rfl, lr, _, j, .ref (r j), rfl, rfl, SqL.of g3.hr, arj, r i, _, t i, b i, t j, b j, rfl, g3.ra i hi, .inr ⟨r j, rfl, g3.ra j hj⟩, sti, sbi, stj, sbj, fun H4 s4 => ?_⟩
    have g4 := g3.on s4
    refine ⟨_, rfl, _, rfl, lp, _, i, .ref (q i), rfl, rfl, SqL.of g4.hp, aqi, _, rfl, _, rfl, lp, _, j, .ref (q j), rfl, rfl, SqL.of g4.hp, aqj, q i, q j, t i, b i, t j, b j, rfl, g4.pa i hi, g4.pa j hj, sti, sbi, stj, sbj, rfl, _, rfl, iteNS rfl ?_⟩
    exact ⟨_, rfl, s3.trans s4⟩
end

/-! ### one step -/
section
variable {P : Program} {w : World} {K : PySem.W.Frag} {mg : Str → Option Value} {base : Heap}
theorem low_bd {x y : Int} {n : Nat} (hy : y ≠ 0) (h1 : x.natAbs < n) (h2 : y.natAbs < n) : (lowT x y).natAbs < n ∧ (lowB x y).natAbs < n := ⟨Nat.lt_of_le_of_lt (lowT_le hy) h1, Nat.lt_of_le_of_lt (lowB_le hy) h2⟩
theorem mul_bd {a b : Int} (ha : a.natAbs < 10 ^ 50) (hb : b.natAbs < 10 ^ 50) : (a * b).natAbs < 10 ^ 101 := by
  rw [Int.natAbs_mul]
  exact Nat.lt_of_le_of_lt (Nat.mul_le_mul (Nat.le_of_lt ha) (Nat.le_of_lt hb)) (by decide +kernel)
theorem mul_bd2 {a b : Int} (ha : a.natAbs < 10 ^ 50) (hb : b.natAbs < 10 ^ 50) : (a * b).natAbs < 10 ^ 110 := Nat.lt_trans (mul_bd ha hb) (by decide +kernel)
theorem sum_bd {a b c d : Int} (ha : a.natAbs < 10 ^ 50) (hb : b.natAbs < 10 ^ 50) (hc : c.natAbs < 10 ^ 50) (hd : d.natAbs < 10 ^ 50) : (a * b + c * d).natAbs < 10 ^ 110 := by
  have h1 := mul_bd ha hb
  have h2 := mul_bd hc hd
  have h3 : (a * b + c * d).natAbs ≤ (a * b).natAbs + (c * d).natAbs := Int.natAbs_add_le _ _
  exact Nat.lt_of_lt_of_le (Nat.lt_of_le_of_lt h3 (Nat.add_lt_add h1 h2)) (by decide +kernel)
theorem b50_41 {a : Int} (h : a.natAbs < 10 ^ 41) : a.natAbs < 10 ^ 50 := Nat.lt_trans h (by decide +kernel)
theorem b110_50 {a : Int} (h : a.natAbs < 10 ^ 50) : a.natAbs < 10 ^ 110 := Nat.lt_trans h (by decide +kernel)
theorem sm50 {a : Int} (h : a.natAbs < 10 ^ 50) : SM a := Nat.lt_trans h (by decide +kernel)
theorem small50 {a : Int} (h : a.natAbs < 10 ^ 18) : a.natAbs < 10 ^ 50 := Nat.lt_trans h (by decide +kernel)
def spStep (C : Addr) : Sp := fun vs H Q _ => ∃ (st lr lp : Addr) (r q : Nat → Addr) (t b : Nat → Int) (G : Hp) (m : Nat), vs = [.ref st, .ref lr, .ref lp] ∧ Regs C G lr lp r q t b ∧ DSt G H st m ∧ m + 4 < 1000000 ∧
  ∀ (o x y : Addr) (H' : Hp) (u v : Int), H' o = some (.tup [.ref x, .ref y]) → RatAt C H' x u v → PairAt H' y u v → Low u v → u.natAbs < 10 ^ 110 → v.natAbs < 10 ^ 110 → DSt G H' st (m + 4) → Q (.ref o) H'
theorem nat3 {r : Int} (h0 : 0 ≤ r) (h1 : r < 3) : ∃ j : Nat, r = (j : Int) ∧ j < 3 := ⟨r.toNat, by omega, by omega⟩
theorem int_ne {a b : Int} (h : ¬ decide (V.int a = V.int b) = true) : a ≠ b := fun e => h (decide_eq_true (by rw [e]))
theorem int_eq {a b : Int} (h : decide (V.int a = V.int b) = true) : a = b := by
  have := of_decide_eq_true h
  injection this
theorem two_ix {a c : V} {k : Bool} : atI [a, c] (if k = true then 1 else 0) = some (if k = true then c else a) := by cases k <;> rfl
theorem ok_step (T : Txt K mg) : FnOk P w K mg base CX0 7 T.f_step T.d_step ["_law_state", "_law_ratios", "_law_pairs"] (spStep T.f_Ratio) := by
  have G_draw : FnOk P w K mg base CX0 1 T.f_draw T.d_draw ["_law_state", "_law_size"] spDraw := ok_draw T
  have G_low : FnOk P w K mg base CX0 1 T.f_low T.d_low ["_law_up", "_law_down"] spLow := ok_low T
  have G_plus : FnOk P w K mg base CX0 2 T.f_plus T.d_plus ["_law_one", "_law_two"] spPlus := ok_plus T
  have G_times : FnOk P w K mg base CX0 2 T.f_times T.d_times ["_law_one", "_law_two"] spTimes := ok_times T
  have G_less : FnOk P w K mg base CX0 1 T.f_less T.d_less ["_law_one", "_law_two"] spLess := ok_less T
  have G_Ratio_init : FnOk P w K mg base CX0 1 T.f_Ratio_init T.d_Ratio_init ["self", "top", "bottom"] (spInit T.f_Ratio) := ok_init T
  have G_Ratio_add : FnOk P w K mg base CX0 4 T.f_Ratio_add T.d_Ratio_add ["self", "other"] (spAdd T.f_Ratio) := ok_add T
  have G_Ratio_sub : FnOk P w K mg base CX0 5 T.f_Ratio_sub T.d_Ratio_sub ["self", "other"] (spSub T.f_Ratio) := ok_sub T
  have G_Ratio_rsub : FnOk P w K mg base CX0 5 T.f_Ratio_rsub T.d_Ratio_rsub ["self", "other"] (spRsub T.f_Ratio) := ok_rsub T
  have G_Ratio_mul : FnOk P w K mg base CX0 4 T.f_Ratio_mul T.d_Ratio_mul ["self", "other"] (spMul T.f_Ratio) := ok_mul T
  have G_Ratio_over : FnOk P w K mg base CX0 4 T.f_Ratio_over T.d_Ratio_over ["self", "value"] (spOver T.f_Ratio) := ok_over T
  have G_Ratio_neg : FnOk P w K mg base CX0 3 T.f_Ratio_neg T.d_Ratio_neg ["self"] (spNeg T.f_Ratio) := ok_neg T
  have G_least : FnOk P w K mg base CX0 5 T.f_least T.d_least ["values"] (spLeast K T.f_Ratio) := ok_least T
  have G_greatest : FnOk P w K mg base CX0 6 T.f_greatest T.d_greatest ["values"] (spGreat K T.f_Ratio) := ok_greatest T
  refine T.F_step.ok sc_step (fun vs H Q E h => ?_) (fun cdv A outer s H vs Q E hr h => ?_)
  · obtain ⟨st, lr, lp, r, q, t, b, G, m, rfl, _⟩ := h
    rfl
  · obtain ⟨st, lr, lp, r, q, t, b, G, m, rfl, g0, d0, hm, k⟩ := h
    refine ⟨_, (pss_cons (ps_set (i := 3) sc_step.nd rfl (Or.inl rfl) (pe_call G_draw (hr.mono (by decide)) rfl T.m_draw T.F_draw.kp T.b_draw .nil pass0 (pa_cons (pv 0) (pa_cons pe_int pa_nil))))
    (pss_cons (ps_set (i := 4) sc_step.nd rfl (Or.inl rfl) (pe_call G_draw (hr.mono (by decide)) rfl T.m_draw T.F_draw.kp T.b_draw .nil pass0 (pa_cons (pv 0) (pa_cons pe_int pa_nil))))
    (pss_cons (ps_set (i := 5) sc_step.nd rfl (Or.inl rfl) (pe_op op_sub (pe_call G_draw (hr.mono (by decide)) rfl T.m_draw T.F_draw.kp T.b_draw .nil pass0 (pa_cons (pv 0) (pa_cons pe_int pa_nil))) pe_int))
    (pss_cons (ps_set (i := 6) sc_step.nd rfl (Or.inl rfl) (pe_call G_draw (hr.mono (by decide)) rfl T.m_draw T.F_draw.kp T.b_draw .nil pass0 (pa_cons (pv 0) (pa_cons pe_int pa_nil))))
    (pss_cons (ps_set (i := 7) sc_step.nd rfl (Or.inl rfl) (pe_ix ix_list (pv 2) (pv 3) (fun _ _ => rfl)))
    (pss_cons (ps_set (i := 8) sc_step.nd rfl (Or.inl rfl) (pe_ix ix_list (pv 2) (pv 4) (fun _ _ => rfl)))
    (pss_cons (ps_if (pt_cmpR op_eq (pv 6) pe_int (nomark _))
      (pss_one (ps_ret (pe_tup (pa_cons (pe_op (op_oo (nm := "add") rfl T.op_Ratio_add G_Ratio_add (hr.mono (by decide)) T.b_Ratio_add pass0) (pe_ix ix_list (pv 1) (pv 3) (fun _ _ => rfl)) (pe_ix ix_list (pv 1) (pv 4) (fun _ _ => rfl))) (pa_cons (pe_call G_plus (hr.mono (by decide)) rfl T.m_plus T.F_plus.kp T.b_plus .nil pass0 (pa_cons (pv 7) (pa_cons (pv 8) pa_nil))) pa_nil)))))
      pss_nil)
    (pss_cons (ps_if (pt_cmpR op_eq (pv 6) pe_int (nomark _))
      (pss_one (ps_ret (pe_tup (pa_cons (pe_op (op_oo (nm := "sub") rfl T.op_Ratio_sub G_Ratio_sub (hr.mono (by decide)) T.b_Ratio_sub pass0) (pe_ix ix_list (pv 1) (pv 3) (fun _ _ => rfl)) (pe_ix ix_list (pv 1) (pv 4) (fun _ _ => rfl))) (pa_cons (pe_call G_plus (hr.mono (by decide)) rfl T.m_plus T.F_plus.kp T.b_plus .nil pass0 (pa_cons (pv 7) (pa_cons (pe_tup (pa_cons (pe_un un_neg (pe_ix ix_tup (pv 8) pe_int (fun _ _ => rfl))) (pa_cons (pe_ix ix_tup (pv 8) pe_int (fun _ _ => rfl)) pa_nil))) pa_nil))) pa_nil)))))
      pss_nil)
    (pss_cons (ps_if (pt_cmpR op_eq (pv 6) pe_int (nomark _))
      (pss_one (ps_ret (pe_tup (pa_cons (pe_op (op_oo (nm := "mul") rfl T.op_Ratio_mul G_Ratio_mul (hr.mono (by decide)) T.b_Ratio_mul pass0) (pe_ix ix_list (pv 1) (pv 3) (fun _ _ => rfl)) (pe_ix ix_list (pv 1) (pv 4) (fun _ _ => rfl))) (pa_cons (pe_call G_times (hr.mono (by decide)) rfl T.m_times T.F_times.kp T.b_times .nil pass0 (pa_cons (pv 7) (pa_cons (pv 8) pa_nil))) pa_nil)))))
      pss_nil)
    (C8.pss_cut (ps_if (PW.pt (pw_and (pt_cmpR op_eq (pv 6) pe_int (nomark _)) (pw_and1 (pt_cmpR op_ne (pe_ix ix_tup (pv 8) pe_int (fun _ _ => rfl)) pe_int (nomark _)))))
      (pss_one (ps_ret (pe_tup (pa_cons (pe_meth (pe_ix ix_list (pv 1) (pv 3) (fun _ _ => rfl)) T.cl_Ratio T.me_Ratio_over G_Ratio_over (hr.mono (by decide)) T.b_Ratio_over .nil pass0 (pa_cons (pe_ix ix_list (pv 1) (pv 4) (fun _ _ => rfl)) pa_nil)) (pa_cons (pe_call G_times (hr.mono (by decide)) rfl T.m_times T.F_times.kp T.b_times .nil pass0 (pa_cons (pv 7) (pa_cons (pe_call G_low (hr.mono (by decide)) rfl T.m_low T.F_low.kp T.b_low .nil pass0 (pa_cons (pe_ix ix_tup (pv 8) pe_int (fun _ _ => rfl)) (pa_cons (pe_ix ix_tup (pv 8) pe_int (fun _ _ => rfl)) pa_nil))) pa_nil))) pa_nil)))))
      pss_nil)
    (pss_cons (ps_if (pt_cmpR op_eq (pv 6) pe_int (nomark _))
      (pss_one (ps_ret (pe_tup (pa_cons (pe_op (op_oi (nm := "add") rfl T.op_Ratio_add G_Ratio_add (hr.mono (by decide)) T.b_Ratio_add pass0) (pe_un (un_negO T.a_Ratio_neg T.i_Ratio_neg G_Ratio_neg (hr.mono (by decide)) T.b_Ratio_neg pass0) (pe_ix ix_list (pv 1) (pv 3) (fun _ _ => rfl))) (pv 5)) (pa_cons (pe_call G_plus (hr.mono (by decide)) rfl T.m_plus T.F_plus.kp T.b_plus .nil pass0 (pa_cons (pe_tup (pa_cons (pe_un un_neg (pe_ix ix_tup (pv 7) pe_int (fun _ _ => rfl))) (pa_cons (pe_ix ix_tup (pv 7) pe_int (fun _ _ => rfl)) pa_nil))) (pa_cons (pe_tup (pa_cons (pv 5) (pa_cons pe_int pa_nil))) pa_nil))) pa_nil)))))
      pss_nil)
    (pss_cons (ps_if (pt_cmpR op_eq (pv 6) pe_int (nomark _))
      (pss_one (ps_ret (pe_tup (pa_cons (pe_op (op_io (nm := "sub") rfl dec_sub T.op_Ratio_sub G_Ratio_rsub (hr.mono (by decide)) T.b_Ratio_rsub pass0) (pv 5) (pe_ix ix_list (pv 1) (pv 3) (fun _ _ => rfl))) (pa_cons (pe_call G_plus (hr.mono (by decide)) rfl T.m_plus T.F_plus.kp T.b_plus .nil pass0 (pa_cons (pe_tup (pa_cons (pv 5) (pa_cons pe_int pa_nil))) (pa_cons (pe_tup (pa_cons (pe_un un_neg (pe_ix ix_tup (pv 7) pe_int (fun _ _ => rfl))) (pa_cons (pe_ix ix_tup (pv 7) pe_int (fun _ _ => rfl)) pa_nil))) pa_nil))) pa_nil)))))
      pss_nil)
    (pss_cons (ps_if (pt_cmpR op_eq (pv 6) pe_int (nomark _))
      (pss_one (ps_ret (pe_tup (pa_cons (pe_call G_least (hr.mono (by decide)) rfl T.m_least T.F_least.kp T.b_least .nil pass0 (pa_cons (pe_lst (pa_cons (pe_ix ix_list (pv 1) (pv 3) (fun _ _ => rfl)) (pa_cons (pe_ix ix_list (pv 1) (pv 4) (fun _ _ => rfl)) pa_nil))) pa_nil)) (pa_cons (pe_ix ix_list (pe_lst (pa_cons (pv 7) (pa_cons (pv 8) pa_nil))) (pe_callTy call_int1 (by rfl) T.n_int (by decide +kernel) (pa_cons (pe_call G_less (hr.mono (by decide)) rfl T.m_less T.F_less.kp T.b_less .nil pass0 (pa_cons (pv 8) (pa_cons (pv 7) pa_nil))) pa_nil)) (fun _ _ => rfl)) pa_nil)))))
      pss_nil)
    (pss_cons (ps_if (pt_cmpR op_eq (pv 6) pe_int (nomark _))
      (pss_one (ps_ret (pe_tup (pa_cons (pe_call G_greatest (hr.mono (by decide)) rfl T.m_greatest T.F_greatest.kp T.b_greatest .nil pass0 (pa_cons (pe_tup (pa_cons (pe_ix ix_list (pv 1) (pv 3) (fun _ _ => rfl)) (pa_cons (pv 5) pa_nil))) pa_nil)) (pa_cons (pe_ix ix_list (pe_lst (pa_cons (pv 7) (pa_cons (pe_tup (pa_cons (pv 5) (pa_cons pe_int pa_nil))) pa_nil))) (pe_callTy call_int1 (by rfl) T.n_int (by decide +kernel) (pa_cons (pe_call G_less (hr.mono (by decide)) rfl T.m_less T.F_less.kp T.b_less .nil pass0 (pa_cons (pv 7) (pa_cons (pe_tup (pa_cons (pv 5) (pa_cons pe_int pa_nil))) pa_nil))) pa_nil)) (fun _ _ => rfl)) pa_nil)))))
      pss_nil)
    (pss_cons (ps_if (pt_cmpR op_eq (pv 6) pe_int (nomark _))
      (pss_one (ps_ret (pe_tup (pa_cons (pe_op (op_oo (nm := "add") rfl T.op_Ratio_add G_Ratio_add (hr.mono (by decide)) T.b_Ratio_add pass0) (pe_ix ix_list (pv 1) (pv 3) (fun _ _ => rfl)) (pe_make T.mk_Ratio G_Ratio_init (hr.mono (by decide)) rfl T.m_Ratio T.b2_Ratio_init T.v2_Ratio_init pass0 (pa_cons pe_int (pa_cons (pe_op op_add (pe_op op_pow pe_int pe_int) (pv 5)) pa_nil)))) (pa_cons (pe_call G_plus (hr.mono (by decide)) rfl T.m_plus T.F_plus.kp T.b_plus .nil pass0 (pa_cons (pv 7) (pa_cons (pe_tup (pa_cons pe_int (pa_cons (pe_op op_add (pe_op op_pow pe_int pe_int) (pv 5)) pa_nil))) pa_nil))) pa_nil)))))
      pss_nil)
    (pss_cons (ps_if (pt_cmpR op_eq (pv 6) pe_int (nomark _))
      (pss_one (ps_ret (pe_tup (pa_cons (pe_op (op_oo (nm := "mul") rfl T.op_Ratio_mul G_Ratio_mul (hr.mono (by decide)) T.b_Ratio_mul pass0) (pe_make T.mk_Ratio G_Ratio_init (hr.mono (by decide)) rfl T.m_Ratio T.b2_Ratio_init T.v2_Ratio_init pass0 (pa_cons pe_int (pa_cons (pe_op op_add pe_int (pe_callB call_abs (by rfl) T.n_abs (by decide +kernel) (pa_cons (pv 5) pa_nil))) pa_nil))) (pe_ix ix_list (pv 1) (pv 3) (fun _ _ => rfl))) (pa_cons (pe_call G_times (hr.mono (by decide)) rfl T.m_times T.F_times.kp T.b_times .nil pass0 (pa_cons (pv 7) (pa_cons (pe_tup (pa_cons pe_int (pa_cons (pe_op op_add pe_int (pe_callB call_abs (by rfl) T.n_abs (by decide +kernel) (pa_cons (pv 5) pa_nil))) pa_nil))) pa_nil))) pa_nil)))))
      pss_nil)
    (pss_one (ps_ret (pe_tup (pa_cons (pe_make T.mk_Ratio G_Ratio_init (hr.mono (by decide)) rfl T.m_Ratio T.b2_Ratio_init T.v2_Ratio_init pass0 (pa_cons (pv 5) (pa_cons (pe_op op_add pe_int (pe_callB call_abs (by rfl) T.n_abs (by decide +kernel) (pa_cons (pv 5) pa_nil))) pa_nil))) (pa_cons (pe_call G_low (hr.mono (by decide)) rfl T.m_low T.F_low.kp T.b_low .nil pass0 (pa_cons (pv 5) (pa_cons (pe_op op_add pe_int (pe_callB call_abs (by rfl) T.n_abs (by decide +kernel) (pa_cons (pv 5) pa_nil))) pa_nil))) pa_nil))))))))))))))))))))), ?_⟩
    refine ⟨_, rfl, G, st, m, 3, rfl, d0, by omega, by decide, by decide, fun ij H1 j0 j1 d1 => ?_⟩
    obtain ⟨j, rfl, hj⟩ := nat3 j0 j1
    refine ⟨_, rfl, G, st, m + 1, 3, rfl, d1, by omega, by decide, by decide, fun ik H2 k0 k1 d2 => ?_⟩
    obtain ⟨i, rfl, hi⟩ := nat3 k0 k1
    refine ⟨_, rfl, G, st, m + 2, 41, rfl, d2, by omega, by decide, by decide, fun n0 H3 n1 n2 d3 => ?_⟩
    refine ⟨_, _, rfl, rfl, ?_⟩
    let n : Int := n0 - 20
    have hn : n.natAbs < 100 := by
      show (n0 - 20).natAbs < 100
      omega
    refine ⟨_, rfl, G, st, m + 3, 11, rfl, d3, by omega, by decide, by decide, fun pl H4 p0 p1 d4 => ?_⟩
    have g4 := g0.on d4.same
    obtain ⟨dj, hxj⟩ := id (g4.ra j hj)
    obtain ⟨di, hxi⟩ := id (g4.ra i hi)
    have arj := at3 (f := fun j => V.ref (r j)) hj
    have aqj := at3 (f := fun j => V.ref (q j)) hj
    have ari := at3 (f := fun j => V.ref (r j)) hi
    have aqi := at3 (f := fun j => V.ref (q j)) hi
    have tj := b50_41 (g0.st j hj)
    have bj := b50_41 (g0.sb j hj)
    have ti := b50_41 (g0.st i hi)
    have bi := b50_41 (g0.sb i hi)
    have lj := g0.low j hj
    have li := g0.low i hi
    have nb : n.natAbs < 10 ^ 50 := Nat.lt_trans hn (by decide +kernel)
    have o1 : (1 : Int).natAbs < 10 ^ 50 := by decide +kernel
    -- how it ends
    have fin : ∀ (x y : Addr) (H' : Hp) (u v : Int), Same H4 H' → RatAt T.f_Ratio H' x u v → PairAt H' y u v → Low u v → u.natAbs < 10 ^ 110 → v.natAbs < 10 ^ 110 → ∀ o, H' o = none → Q (.ref o) (upd H' o (.tup [.ref x, .ref y])) :=
      fun x y H' u v s rx py hl hu hv o no => k o x y _ u v upd_same (rx.on (same_upd no)) (py.on (same_upd no)) hl hu hv (d4.on (s.trans (same_upd no)))
    have z2 : 2 ≤ sizeLine := by decide
    refine ⟨_, rfl, _, rfl, lp, _, j, .ref (q j), rfl, rfl, SqL.of g4.hp, aqj, ?_⟩
    refine ⟨_, rfl, _, rfl, lp, _, i, .ref (q i), rfl, rfl, SqL.of g4.hp, aqi, ?_⟩
    -- plan 0: a sum
    refine ⟨_, rfl, rfl, _, rfl, ite2 (fun _ => ?_) fun _ => ?_⟩
    · refine ⟨_, rfl, _, rfl, lr, _, j, .ref (r j), rfl, rfl, SqL.of g4.hr, arj, _, rfl, _, rfl, lr, _, i, .ref (r i), rfl, rfl, SqL.of g4.hr, ari, ?_⟩
      refine ⟨r j, dj, _, r i, di, _, rfl, rfl, hxj, hxi, r j, _, t j, b j, t i, b i, rfl, g4.ra j hj, .inr ⟨r i, rfl, g4.ra i hi⟩, sm50 tj, sm50 bj, sm50 ti, sm50 bi, lj.ne, li.ne, fun x H5 nx s5 rx => ?_⟩
      refine ⟨_, rfl, _, rfl, q j, q i, t j, b j, t i, b i, rfl, (g4.pa j hj).on s5, (g4.pa i hi).on s5, sm50 tj, sm50 bj, sm50 ti, sm50 bi, lj.ne, li.ne, fun y H6 ny s6 py => ⟨z2, fin x y H6 _ _ (s5.trans s6) (rx.on s6) py (Low.of (Int.mul_ne_zero lj.ne li.ne)) ?_ ?_⟩⟩
      · exact (low_bd (Int.mul_ne_zero lj.ne li.ne) (sum_bd tj bi ti bj) (mul_bd2 bj bi)).1
      · exact (low_bd (Int.mul_ne_zero lj.ne li.ne) (sum_bd tj bi ti bj) (mul_bd2 bj bi)).2
    -- plan 1: a difference
    refine ⟨_, rfl, rfl, _, rfl, ite2 (fun _ => ?_) fun _ => ?_⟩
    · refine ⟨_, rfl, _, rfl, lr, _, j, .ref (r j), rfl, rfl, SqL.of g4.hr, arj, _, rfl, _, rfl, lr, _, i, .ref (r i), rfl, rfl, SqL.of g4.hr, ari, ?_⟩
      refine ⟨r j, dj, _, r i, di, _, rfl, rfl, hxj, hxi, r j, _, t j, b j, t i, b i, rfl, g4.ra j hj, .inr ⟨r i, rfl, g4.ra i hi⟩, sm50 tj, sm50 bj, sm50 ti, sm50 bi, lj.ne, li, fun x H5 nx s5 rx => ?_⟩
      have p5 := (g4.pa i hi).on s5
      refine ⟨_, rfl, _, rfl, q i, _, 0, .int (t i), rfl, rfl, SqT.of p5, rfl, t i, rfl, _, rfl, q i, _, 1, .int (b i), rfl, rfl, SqT.of p5, rfl, z2, fun o2 ho2 => ?_⟩
      refine ⟨q j, o2, t j, b j, -t i, b i, rfl, ((g4.pa j hj).on s5).on (same_upd ho2), upd_same, sm50 tj, sm50 bj, (sm50 ti).neg, sm50 bi, lj.ne, li.ne, fun y H6 ny s6 py => ⟨z2, fin x y H6 _ _ ((s5.trans (same_upd ho2)).trans s6) ((rx.on (same_upd ho2)).on s6) py (Low.of (Int.mul_ne_zero lj.ne li.ne)) ?_ ?_⟩⟩
      · exact (low_bd (Int.mul_ne_zero lj.ne li.ne) (sum_bd tj bi (by rw [Int.natAbs_neg]; exact ti) bj) (mul_bd2 bj bi)).1
      · exact (low_bd (Int.mul_ne_zero lj.ne li.ne) (sum_bd tj bi (by rw [Int.natAbs_neg]; exact ti) bj) (mul_bd2 bj bi)).2
    -- plan 2: a product
    refine ⟨_, rfl, rfl, _, rfl, ite2 (fun _ => ?_) fun _ => ?_⟩
    · refine ⟨_, rfl, _, rfl, lr, _, j, .ref (r j), rfl, rfl, SqL.of g4.hr, arj, _, rfl, _, rfl, lr, _, i, .ref (r i), rfl, rfl, SqL.of g4.hr, ari, ?_⟩
      refine ⟨r j, dj, _, r i, di, _, rfl, rfl, hxj, hxi, r j, _, t j, b j, t i, b i, rfl, g4.ra j hj, .inr ⟨r i, rfl, g4.ra i hi⟩, sm50 tj, sm50 bj, sm50 ti, sm50 bi, lj.ne, li.ne, fun x H5 nx s5 rx => ?_⟩
      refine ⟨_, rfl, _, rfl, q j, q i, t j, b j, t i, b i, rfl, (g4.pa j hj).on s5, (g4.pa i hi).on s5, sm50 tj, sm50 bj, sm50 ti, sm50 bi, lj.ne, li.ne, fun y H6 ny s6 py => ⟨z2, fin x y H6 _ _ (s5.trans s6) (rx.on s6) py (Low.of (Int.mul_ne_zero lj.ne li.ne)) ?_ ?_⟩⟩
      · exact (low_bd (Int.mul_ne_zero lj.ne li.ne) (mul_bd2 tj ti) (mul_bd2 bj bi)).1
      · exact (low_bd (Int.mul_ne_zero lj.ne li.ne) (mul_bd2 tj ti) (mul_bd2 bj bi)).2
    -- plan 3: a quotient
    refine ⟨fun σ H' => σ = [some (.ref st), some (.ref lr), some (.ref lp), some (.int j), some (.int i), some (.int n), some (.int pl), some (.ref (q j)), some (.ref (q i))] ∧ H' = H4, ?_, ?_⟩
    · refine ⟨_, rfl, rfl, _, rfl, ite2 (fun _ => ?_) fun _ => ⟨rfl, rfl⟩⟩
      refine ⟨_, rfl, q i, _, 0, .int (t i), rfl, rfl, SqT.of (g4.pa i hi), rfl, rfl, _, rfl, ite2 (fun hz => ?_) fun _ => ⟨rfl, rfl⟩⟩
      have hti : t i ≠ 0 := fun e => by
        rw [e] at hz
        cases hz
      refine ⟨_, rfl, _, rfl, lr, _, j, .ref (r j), rfl, rfl, SqL.of g4.hr, arj, r j, dj, _, rfl, hxj, rf_over _ _, _, rfl, _, rfl, lr, _, i, .ref (r i), rfl, rfl, SqL.of g4.hr, ari, ?_⟩
      refine ⟨r j, _, t j, b j, t i, b i, rfl, g4.ra j hj, .inr ⟨r i, rfl, g4.ra i hi⟩, sm50 tj, sm50 bj, sm50 ti, sm50 bi, lj.ne, hti, fun x H5 nx s5 rx => ?_⟩
      have p5 := (g4.pa i hi).on s5
      refine ⟨_, rfl, _, rfl, q i, _, 1, .int (b i), rfl, rfl, SqT.of p5, rfl, _, rfl, q i, _, 0, .int (t i), rfl, rfl, SqT.of p5, rfl, b i, t i, rfl, hti, (sm50 ti).big, fun o2 H6 no2 s6 eo2 => ?_⟩
      have lb := low_bd hti bi ti
      have lp0 : lowB (b i) (t i) ≠ 0 := by have := lowB_pos (t := b i) hti; omega
      refine ⟨q j, o2, t j, b j, lowT (b i) (t i), lowB (b i) (t i), rfl, ((g4.pa j hj).on s5).on s6, eo2, sm50 tj, sm50 bj, sm50 lb.1, sm50 lb.2, lj.ne, lp0, fun y H7 ny s7 py => ?_⟩
      rw [← (low_over hti lj.ne).1, ← (low_over hti lj.ne).2] at py
      refine ⟨z2, fin x y H7 _ _ ((s5.trans s6).trans s7) ((rx.on s6).on s7) py (Low.of (Int.mul_ne_zero lj.ne hti)) ?_ ?_⟩
      · exact (low_bd (Int.mul_ne_zero lj.ne hti) (mul_bd2 tj bi) (mul_bd2 bj ti)).1
      · exact (low_bd (Int.mul_ne_zero lj.ne hti) (mul_bd2 tj bi) (mul_bd2 bj ti)).2
    rintro σ H' ⟨rfl, rfl⟩
    have njb : (-t j).natAbs < 10 ^ 50 := by rw [Int.natAbs_neg]; exact tj
    have b1 : b j * 1 ≠ 0 := Int.mul_ne_zero lj.ne (by decide)
    -- plan 4
    refine ⟨_, rfl, rfl, _, rfl, ite2 (fun _ => ?_) fun _ => ?_⟩
    · refine ⟨_, rfl, _, rfl, lr, _, j, .ref (r j), rfl, rfl, SqL.of g4.hr, arj, r j, dj, _, rfl, hxj, r j, t j, b j, rfl, g4.ra j hj, lj, sm50 bj, fun o H5 no s5 ro => ?_⟩
      obtain ⟨d0, ho⟩ := id ro
      refine ⟨_, rfl, o, d0, _, n, rfl, rfl, ho, o, _, -t j, b j, n, 1, rfl, ro, .inl ⟨rfl, rfl⟩, sm50 njb, sm50 bj, sm50 nb, sm50 o1, lj.ne, by decide, fun x H6 nx s6 rx => ?_⟩
      have p6 := ((g4.pa j hj).on s5).on s6
      refine ⟨_, rfl, q j, _, 0, .int (t j), rfl, rfl, SqT.of p6, rfl, t j, rfl, _, rfl, q j, _, 1, .int (b j), rfl, rfl, SqT.of p6, rfl, z2, fun o2 ho2 => ⟨_, rfl, z2, fun o3 ho3 => ?_⟩⟩
      refine ⟨o2, o3, -t j, b j, n, 1, rfl, same_upd ho3 _ _ upd_same, upd_same, sm50 njb, sm50 bj, sm50 nb, sm50 o1, lj.ne, by decide, fun y H7 ny s7 py => ?_⟩
      have s67 := ((same_upd ho2).trans (same_upd ho3)).trans s7
      refine ⟨z2, fin x y H7 _ _ ((s5.trans s6).trans s67) (rx.on s67) py (Low.of b1) ?_ ?_⟩
      · exact (low_bd b1 (sum_bd njb o1 nb bj) (mul_bd2 bj o1)).1
      · exact (low_bd b1 (sum_bd njb o1 nb bj) (mul_bd2 bj o1)).2
    -- plan 5
    refine ⟨_, rfl, rfl, _, rfl, ite2 (fun _ => ?_) fun _ => ?_⟩
    · refine ⟨_, rfl, _, rfl, _, rfl, lr, _, j, .ref (r j), rfl, rfl, SqL.of g4.hr, arj, r j, dj, _, n, rfl, rfl, hxj, r j, n, t j, b j, rfl, g4.ra j hj, sm50 tj, sm50 bj, sm50 nb, lj, fun x H6 nx s6 rx => ?_⟩
      refine ⟨_, rfl, z2, fun o2 ho2 => ?_⟩
      have s7 := same_upd (o := .tup [V.int n, V.int 1]) ho2
      have p6 := ((g4.pa j hj).on s6).on s7
      refine ⟨_, rfl, q j, _, 0, .int (t j), rfl, rfl, SqT.of p6, rfl, t j, rfl, _, rfl, q j, _, 1, .int (b j), rfl, rfl, SqT.of p6, rfl, z2, fun o3 ho3 => ?_⟩
      refine ⟨o2, o3, n, 1, -t j, b j, rfl, same_upd ho3 _ _ upd_same, upd_same, sm50 nb, sm50 o1, sm50 njb, sm50 bj, by decide, lj.ne, fun y H7 ny s8 py => ?_⟩
      rw [Int.add_comm, Int.mul_comm 1 (b j)] at py
      have s67 := (s7.trans (same_upd ho3)).trans s8
      refine ⟨z2, fin x y H7 _ _ (s6.trans s67) (rx.on s67) py (Low.of b1) ?_ ?_⟩
      · exact (low_bd b1 (sum_bd njb o1 nb bj) (mul_bd2 bj o1)).1
      · exact (low_bd b1 (sum_bd njb o1 nb bj) (mul_bd2 bj o1)).2
    -- plan 6: the least
    refine ⟨_, rfl, rfl, _, rfl, ite2 (fun _ => ?_) fun _ => ?_⟩
    · refine ⟨_, rfl, _, rfl, lr, _, j, .ref (r j), rfl, rfl, SqL.of g4.hr, arj, _, rfl, _, rfl, lr, _, i, .ref (r i), rfl, rfl, SqL.of g4.hr, ari, z2, fun l hl => ?_⟩
      have sl := same_upd (o := .lst [V.ref (r j), V.ref (r i)]) hl
      refine ⟨l, _, [(t j, b j), (t i, b i)], rfl, .inl (SqL.of upd_same), (fun z => nomatch z), Nums.cons (.inr ⟨r j, rfl, (g4.ra j hj).on sl⟩) ⟨lj, sm50 tj, sm50 bj⟩ (Nums.cons (.inr ⟨r i, rfl, (g4.ra i hi).on sl⟩) ⟨li, sm50 ti, sm50 bi⟩ Nums.nil), fun x H5 s5 rx => ?_⟩
      refine ⟨_, rfl, _, rfl, z2, fun l2 hl2 => ?_⟩
      have s6 := same_upd (o := .lst [V.ref (q j), V.ref (q i)]) hl2
      have s46 := (sl.trans s5).trans s6
      refine ⟨_, rfl, _, rfl, q i, q j, t i, b i, t j, b j, rfl, (g4.pa i hi).on s46, (g4.pa j hj).on s46, sm50 ti, sm50 bi, sm50 tj, sm50 bj, .inr ?_⟩
      change RatAt _ _ _ (pick (t j, b j) (t i, b i)).1 (pick (t j, b j) (t i, b i)).2 at rx
      by_cases hk : t i * b j < t j * b i
      · have ep : pick (t j, b j) (t i, b i) = (t i, b i) := if_pos hk
        rw [ep] at rx
        exact ⟨true, by rw [decide_eq_true hk], l2, _, 1, .ref (q i), rfl, rfl, SqL.of upd_same, rfl, z2, fin x (q i) _ _ _ s46 (rx.on s6) ((g4.pa i hi).on s46) li (b110_50 ti) (b110_50 bi)⟩
      · have ep : pick (t j, b j) (t i, b i) = (t j, b j) := if_neg hk
        rw [ep] at rx
        exact ⟨false, by rw [decide_eq_false hk], l2, _, 0, .ref (q j), rfl, rfl, SqL.of upd_same, rfl, z2, fin x (q j) _ _ _ s46 (rx.on s6) ((g4.pa j hj).on s46) lj (b110_50 tj) (b110_50 bj)⟩
    -- plan 7: the greatest
    refine ⟨_, rfl, rfl, _, rfl, ite2 (fun _ => ?_) fun _ => ?_⟩
    · refine ⟨_, rfl, _, rfl, lr, _, j, .ref (r j), rfl, rfl, SqL.of g4.hr, arj, _, rfl, z2, fun l hl => ?_⟩
      have sl := same_upd (o := .tup [V.ref (r j), V.int n]) hl
      refine ⟨l, _, [(t j, b j), (n, 1)], rfl, .inr (SqT.of upd_same), (fun z => nomatch z), (by show 2 ≤ 900; decide), Nums.cons (.inr ⟨r j, rfl, (g4.ra j hj).on sl⟩) ⟨lj, sm50 tj, sm50 bj⟩ (Nums.cons (.inl ⟨rfl, rfl⟩) ⟨Low.one n, sm50 nb, sm50 o1⟩ Nums.nil), fun x H5 s5 rx => ?_⟩
      refine ⟨_, rfl, _, rfl, z2, fun o2 ho2 => ⟨z2, fun l2 hl2 => ?_⟩⟩
      have s6 := same_upd (o := .tup [V.int n, V.int 1]) ho2
      have s7 := same_upd (o := .lst [V.ref (q j), V.ref o2]) hl2
      refine ⟨_, rfl, _, rfl, z2, fun o3 ho3 => ?_⟩
      have s8 := same_upd (o := .tup [V.int n, V.int 1]) ho3
      have s48 := (((sl.trans s5).trans s6).trans s7).trans s8
      refine ⟨q j, o3, t j, b j, n, 1, rfl, (g4.pa j hj).on s48, upd_same, sm50 tj, sm50 bj, sm50 nb, sm50 o1, .inr ?_⟩
      change RatAt _ _ _ (pickG (t j, b j) (n, 1)).1 (pickG (t j, b j) (n, 1)).2 at rx
      have rx8 := (rx.on s6).on (s7.trans s8)
      by_cases hk : t j * 1 < n * b j
      · have ep : pickG (t j, b j) (n, 1) = (n, 1) := if_pos hk
        rw [ep] at rx8
        exact ⟨true, by rw [decide_eq_true hk], l2, _, 1, .ref o2, rfl, rfl, SqL.of (s8 _ _ upd_same), rfl, z2, fin x o2 _ _ _ s48 rx8 (s8 _ _ (s7 _ _ upd_same)) (Low.one n) (b110_50 nb) (b110_50 o1)⟩
      · have ep : pickG (t j, b j) (n, 1) = (t j, b j) := if_neg hk
        rw [ep] at rx8
        exact ⟨false, by rw [decide_eq_false hk], l2, _, 0, .ref (q j), rfl, rfl, SqL.of (s8 _ _ upd_same), rfl, z2, fin x (q j) _ _ _ s48 rx8 ((g4.pa j hj).on s48) lj (b110_50 tj) (b110_50 bj)⟩
    -- plan 8
    refine ⟨_, rfl, rfl, _, rfl, ite2 (fun _ => ?_) fun _ => ?_⟩
    · refine ⟨_, rfl, _, rfl, lr, _, j, .ref (r j), rfl, rfl, SqL.of g4.hr, arj, ?_⟩
      have hM : 0 < 10 ^ (15 : Int).toNat + n ∧ (10 ^ (15 : Int).toNat + n).natAbs < 10 ^ 18 := by
        have e : (10 : Int) ^ (15 : Int).toNat = 1000000000000000 := by decide +kernel
        rw [e]
        have hn' := hn
        generalize n = n' at hn' ⊢
        omega
      have hM50 := small50 hM.2
      have lM : Low 1 (10 ^ (15 : Int).toNat + n) := ⟨hM.1, by simp⟩
      refine ⟨10, 15, rfl, rfl, ⟨by decide, by decide, by decide⟩, _, rfl, _, _, rfl, rfl, fun x0 dx0 nx ndx ne => ⟨x0, dx0, 1, 10 ^ (15 : Int).toNat + n, rfl, upd_same, lM.ne, (sm50 hM50).big, fun H5 r5 st5 => ⟨rfl, ?_⟩⟩⟩
      have s5 := Same.made nx ndx st5
      rw [lM.tt, lM.bb] at r5
      obtain ⟨d0, h0⟩ := id r5
      have bM : b j * (10 ^ (15 : Int).toNat + n) ≠ 0 := Int.mul_ne_zero lj.ne lM.ne
      refine ⟨r j, dj, _, x0, d0, _, rfl, rfl, s5 _ _ hxj, h0, r j, _, t j, b j, 1, 10 ^ (15 : Int).toNat + n, rfl, (g4.ra j hj).on s5, .inr ⟨x0, rfl, r5⟩, sm50 tj, sm50 bj, sm50 o1, sm50 hM50, lj.ne, lM.ne, fun x H6 nx6 s6 rx => ?_⟩
      refine ⟨_, rfl, 10, 15, rfl, rfl, ⟨by decide, by decide, by decide⟩, _, rfl, _, _, rfl, rfl, z2, fun o2 ho2 => ?_⟩
      refine ⟨q j, o2, t j, b j, 1, 10 ^ (15 : Int).toNat + n, rfl, (((g4.pa j hj).on s5).on s6).on (same_upd ho2), upd_same, sm50 tj, sm50 bj, sm50 o1, sm50 hM50, lj.ne, lM.ne, fun y H7 ny s7 py => ?_⟩
      have s67 := (same_upd ho2).trans s7
      refine ⟨z2, fin x y H7 _ _ ((s5.trans s6).trans s67) (rx.on s67) py (Low.of bM) ?_ ?_⟩
      · exact (low_bd bM (sum_bd tj hM50 o1 bj) (mul_bd2 bj hM50)).1
      · exact (low_bd bM (sum_bd tj hM50 o1 bj) (mul_bd2 bj hM50)).2
    -- plan 9
    have hA : 0 < 1 + (if n < 0 then -n else n) ∧ (1 + (if n < 0 then -n else n)).natAbs < 10 ^ 18 := by
      have hn' := hn
      generalize n = n' at hn' ⊢
      split <;> omega
    have hA50 := small50 hA.2
    have lA : Low 1 (1 + (if n < 0 then -n else n)) := ⟨hA.1, by simp⟩
    refine ⟨_, rfl, rfl, _, rfl, ite2 (fun _ => ?_) fun _ => ?_⟩
    · refine ⟨_, rfl, n, rfl, _, _, rfl, rfl, fun x0 dx0 nx ndx ne => ⟨x0, dx0, 1, 1 + (if n < 0 then -n else n), rfl, upd_same, lA.ne, (sm50 hA50).big, fun H5 r5 st5 => ⟨rfl, ?_⟩⟩⟩
      have s5 := Same.made nx ndx st5
      rw [lA.tt, lA.bb] at r5
      obtain ⟨d0, h0⟩ := id r5
      have bA : b j * (1 + (if n < 0 then -n else n)) ≠ 0 := Int.mul_ne_zero lj.ne lA.ne
      refine ⟨_, rfl, _, rfl, lr, _, j, .ref (r j), rfl, rfl, SqL.of (s5 _ _ g4.hr), arj, x0, d0, _, r j, dj, _, rfl, rfl, h0, s5 _ _ hxj, x0, _, 1, 1 + (if n < 0 then -n else n), t j, b j, rfl, r5, .inr ⟨r j, rfl, (g4.ra j hj).on s5⟩, sm50 o1, sm50 hA50, sm50 tj, sm50 bj, lA.ne, lj.ne, fun x H6 nx6 s6 rx => ?_⟩
      rw [Int.mul_comm 1 (t j), Int.mul_comm _ (b j)] at rx
      refine ⟨_, rfl, _, rfl, n, rfl, _, _, rfl, rfl, z2, fun o2 ho2 => ?_⟩
      refine ⟨q j, o2, t j, b j, 1, 1 + (if n < 0 then -n else n), rfl, (((g4.pa j hj).on s5).on s6).on (same_upd ho2), upd_same, sm50 tj, sm50 bj, sm50 o1, sm50 hA50, lj.ne, lA.ne, fun y H7 ny s7 py => ?_⟩
      have s67 := (same_upd ho2).trans s7
      refine ⟨z2, fin x y H7 _ _ ((s5.trans s6).trans s67) (rx.on s67) py (Low.of bA) ?_ ?_⟩
      · exact (low_bd bA (mul_bd2 tj o1) (mul_bd2 bj hA50)).1
      · exact (low_bd bA (mul_bd2 tj o1) (mul_bd2 bj hA50)).2
    -- else
    refine ⟨_, rfl, _, rfl, n, rfl, _, _, rfl, rfl, fun x0 dx0 nx ndx ne => ⟨x0, dx0, n, 1 + (if n < 0 then -n else n), rfl, upd_same, lA.ne, (sm50 hA50).big, fun H5 r5 st5 => ⟨rfl, ?_⟩⟩⟩
    have s5 := Same.made nx ndx st5
    refine ⟨_, rfl, _, rfl, n, rfl, _, _, rfl, rfl, n, 1 + (if n < 0 then -n else n), rfl, lA.ne, (sm50 hA50).big, fun y H6 ny s6 py => ?_⟩
    refine ⟨z2, fin x0 y H6 _ _ (s5.trans s6) (r5.on s6) py (Low.of lA.ne) ?_ ?_⟩
    · exact (low_bd lA.ne (b110_50 nb) (b110_50 hA50)).1
    · exact (low_bd lA.ne (b110_50 nb) (b110_50 hA50)).2
end

/-! ### the law -/
section
variable {P : Program} {w : World} {K : PySem.W.Frag} {mg : Str → Option Value} {base : Heap}
/-- what stands behind and is no list is known from then on -/
theorem DSt.grow {G H : Hp} {s : Addr} {m : Nat} (d : DSt G H s m) : ∃ G', DSt G' H s m ∧ Same G G' ∧ ∀ a o, H a = some o → (∀ xs, o ≠ .lst xs) → G' a = some o := by
  obtain ⟨b, c, gs, cs, n, d, hn⟩ := d
  have gl : ∀ a xs, G a = none → H a = some (.lst xs) → (match G a with | some o => some o | none => match H a with | some (.lst _) => none | x => x) = none := fun a xs e1 e2 => by rw [e1, e2]
  refine ⟨fun a => match G a with | some o => some o | none => match H a with | some (.lst _) => none | x => x, ⟨b, c, gs, cs, n, ⟨fun a o e => ?_, gl _ _ d.fs d.hs, gl _ _ d.fb d.hb, gl _ _ d.fc d.hc, d.hs, d.hb, d.hc, d.ne, d.pos⟩, hn⟩, fun a o e => ?_, fun a o e ne => ?_⟩
  · cases eg : G a with
    | some o' =>
      simp only [eg] at e
      rw [← e]
      exact d.same a _ eg
    | none =>
      simp only [eg] at e
      cases eh : H a with
      | none => rw [eh] at e; cases e
      | some o' =>
        rw [eh] at e
        cases o' <;> first | exact e | cases e
  · show (match G a with | some o => some o | none => match H a with | some (.lst _) => none | x => x) = some o
    rw [e]
  · show (match G a with | some o => some o | none => match H a with | some (.lst _) => none | x => x) = some o
    cases eg : G a with
    | some o' =>
      have := d.same a _ eg
      rw [e] at this
      exact this.symm
    | none =>
      simp only
      rw [e]
      cases o with
      | lst xs => exact absurd rfl (ne xs)
      | _ => rfl
structure RegR (C : Addr) (H : Hp) (lr : Addr) (r : Nat → Addr) (t b : Nat → Int) : Prop where
  hr : H lr = some (.lst [.ref (r 0), .ref (r 1), .ref (r 2)])
  ra : ∀ i, i < 3 → RatAt C H (r i) (t i) (b i)
structure RegP (H : Hp) (lp : Addr) (q : Nat → Addr) (t b : Nat → Int) : Prop where
  hp : H lp = some (.lst [.ref (q 0), .ref (q 1), .ref (q 2)])
  pa : ∀ i, i < 3 → PairAt H (q i) (t i) (b i)
theorem RegR.on {C : Addr} {H H' : Hp} {lr : Addr} {r : Nat → Addr} {t b : Nat → Int} (g : RegR C H lr r t b) (s : Same H H') : RegR C H' lr r t b := ⟨s _ _ g.hr, fun i h => (g.ra i h).on s⟩
theorem RegP.on {H H' : Hp} {lp : Addr} {q : Nat → Addr} {t b : Nat → Int} (g : RegP H lp q t b) (s : Same H H') : RegP H' lp q t b := ⟨s _ _ g.hp, fun i h => (g.pa i h).on s⟩
theorem RegR.put {C : Addr} {H : Hp} {lr D : Addr} {r : Nat → Addr} {t b : Nat → Int} {ys zs : List V} (g : RegR C H lr r t b) (h : H D = some (.lst ys)) (ne : lr ≠ D) : RegR C (upd H D (.lst zs)) lr r t b := ⟨by rw [upd_ne ne]; exact g.hr, fun i hi => (g.ra i hi).put h⟩
theorem RegP.put {H : Hp} {lp D : Addr} {q : Nat → Addr} {t b : Nat → Int} {ys zs : List V} (g : RegP H lp q t b) (h : H D = some (.lst ys)) (ne : lp ≠ D) : RegP (upd H D (.lst zs)) lp q t b := ⟨by rw [upd_ne ne]; exact g.hp, fun i hi => (g.pa i hi).put h⟩
theorem RegR.set {C : Addr} {H : Hp} {lr x : Addr} {r : Nat → Addr} {t b : Nat → Int} {u v : Int} {j : Nat} (g : RegR C H lr r t b) (hj : j < 3) (hx : RatAt C H x u v) :
    RegR C (upd H lr (.lst ([V.ref (r 0), .ref (r 1), .ref (r 2)].set j (.ref x)))) lr (fun i => if i = j then x else r i) (fun i => if i = j then u else t i) (fun i => if i = j then v else b i) := by
  refine ⟨by rw [upd_same, set3 hj], fun i hi => ?_⟩
  by_cases e : i = j
  · simp only [if_pos e]
    exact hx.put g.hr
  · simp only [if_neg e]
    exact (g.ra i hi).put g.hr
theorem RegP.set {H : Hp} {lp x : Addr} {q : Nat → Addr} {t b : Nat → Int} {u v : Int} {j : Nat} (g : RegP H lp q t b) (hj : j < 3) (hx : PairAt H x u v) :
    RegP (upd H lp (.lst ([V.ref (q 0), .ref (q 1), .ref (q 2)].set j (.ref x)))) lp (fun i => if i = j then x else q i) (fun i => if i = j then u else t i) (fun i => if i = j then v else b i) := by
  refine ⟨by rw [upd_same, set3 hj], fun i hi => ?_⟩
  by_cases e : i = j
  · simp only [if_pos e]
    exact hx.put g.hp
  · simp only [if_neg e]
    exact (g.pa i hi).put g.hp
structure Good (t b : Nat → Int) : Prop where
  low : ∀ i, i < 3 → Low (t i) (b i)
  st : ∀ i, i < 3 → (t i).natAbs < 10 ^ 41
  sb : ∀ i, i < 3 → (b i).natAbs < 10 ^ 41
theorem Good.set {t b : Nat → Int} {u v : Int} {j : Nat} (g : Good t b) (hl : Low u v) (hu : u.natAbs < 10 ^ 41) (hv : v.natAbs < 10 ^ 41) : Good (fun i => if i = j then u else t i) (fun i => if i = j then v else b i) := by
  refine ⟨fun i hi => ?_, fun i hi => ?_, fun i hi => ?_⟩
  · by_cases e : i = j
    · simp only [if_pos e]; exact hl
    · simp only [if_neg e]; exact g.low i hi
  · by_cases e : i = j
    · simp only [if_pos e]; exact hu
    · simp only [if_neg e]; exact g.st i hi
  · by_cases e : i = j
    · simp only [if_pos e]; exact hv
    · simp only [if_neg e]; exact g.sb i hi
theorem Regs.rat {C : Addr} {H : Hp} {lr lp : Addr} {r q : Nat → Addr} {t b : Nat → Int} (g : Regs C H lr lp r q t b) : RegR C H lr r t b := ⟨g.hr, g.ra⟩
theorem Regs.prs {C : Addr} {H : Hp} {lr lp : Addr} {r q : Nat → Addr} {t b : Nat → Int} (g : Regs C H lr lp r q t b) : RegP H lp q t b := ⟨g.hp, g.pa⟩
theorem Regs.good {C : Addr} {H : Hp} {lr lp : Addr} {r q : Nat → Addr} {t b : Nat → Int} (g : Regs C H lr lp r q t b) : Good t b := ⟨g.low, g.st, g.sb⟩
theorem Regs.of {C : Addr} {H : Hp} {lr lp : Addr} {r q : Nat → Addr} {t b : Nat → Int} (ne : lr ≠ lp) (a : RegR C H lr r t b) (p : RegP H lp q t b) (g : Good t b) : Regs C H lr lp r q t b := ⟨a.hr, p.hp, ne, a.ra, p.pa, g.low, g.st, g.sb⟩
def tri {α : Type} (a b c : α) : Nat → α
  | 0 => a
  | 1 => b
  | _ => c
theorem all3 {p : Nat → Prop} (h0 : p 0) (h1 : p 1) (h2 : p 2) : ∀ i, i < 3 → p i
  | 0, _ => h0
  | 1, _ => h1
  | 2, _ => h2
  | _ + 3, h => by omega
theorem log_110 {n : Int} (h : n.natAbs < 10 ^ 110) : n.natAbs.log2 < 1920 := Nat.lt_of_lt_of_le (PySem.Flt.log2_lt_of (k := 400) (by decide) (Nat.lt_of_lt_of_le h (by decide +kernel))) (by decide)
theorem dec_smallN {n : Int} {k : Nat} (h0 : ¬ n < 0) (h : ¬ (k : Int) < ((dec n).length : Int)) : n.natAbs < 10 ^ k := by
  rcases Nat.lt_or_ge n.natAbs (10 ^ k) with q | q
  · exact q
  · have := PyProof.Rows.digits10_ge q
    rw [TL.len_tl, dec_nn h0] at h
    have e : (TL.numL n.natAbs).length = (Nat.toDigits 10 n.natAbs).length := by unfold TL.numL; rw [List.length_map]
    omega
theorem b41_40 {a : Int} (h : a.natAbs < 10 ^ 40) : a.natAbs < 10 ^ 41 := Nat.lt_trans h (by decide +kernel)
theorem small40 {a : Int} (h : a.natAbs < 100) : a.natAbs < 10 ^ 40 := Nat.lt_trans h (by decide +kernel)
theorem RatAt.ins {C : Addr} {H G : Hp} {p : Addr} {t b : Int} (r : RatAt C H p t b) (k : ∀ a o, H a = some o → (∀ xs, o ≠ .lst xs) → G a = some o) : RatAt C G p t b := let ⟨dx, h⟩ := r; ⟨dx, k _ _ h fun _ z => nomatch z⟩
theorem PairAt.ins {H G : Hp} {p : Addr} {t b : Int} (r : PairAt H p t b) (k : ∀ a o, H a = some o → (∀ xs, o ≠ .lst xs) → G a = some o) : PairAt G p t b := k _ _ r fun _ z => nomatch z
def spLaw (K : PySem.W.Frag) : Sp := fun vs H Q _ => ∃ (a : Addr) (ns : List Int), vs = [.ref a] ∧ SqL K H a (ns.map V.int) ∧ ns.length ≤ 63 ∧ ∀ H', Q (.bl true) H'
theorem ok_law {f : Addr} {fd : FuncData} (T : Txt K mg) (F : Fun K "law" "law" s_law f fd) : FnOk P w K mg base CX0 8 f fd ["_law_script"] (spLaw K) := by
  have G_start : FnOk P w K mg base CX0 1 T.f_start T.d_start ["_law_script"] (spStart K) := ok_start T
  have G_draw : FnOk P w K mg base CX0 1 T.f_draw T.d_draw ["_law_state", "_law_size"] spDraw := ok_draw T
  have G_low : FnOk P w K mg base CX0 1 T.f_low T.d_low ["_law_up", "_law_down"] spLow := ok_low T
  have G_plus : FnOk P w K mg base CX0 2 T.f_plus T.d_plus ["_law_one", "_law_two"] spPlus := ok_plus T
  have G_Ratio_init : FnOk P w K mg base CX0 1 T.f_Ratio_init T.d_Ratio_init ["self", "top", "bottom"] (spInit T.f_Ratio) := ok_init T
  have G_Ratio_add : FnOk P w K mg base CX0 4 T.f_Ratio_add T.d_Ratio_add ["self", "other"] (spAdd T.f_Ratio) := ok_add T
  have G_step : FnOk P w K mg base CX0 7 T.f_step T.d_step ["_law_state", "_law_ratios", "_law_pairs"] (spStep T.f_Ratio) := ok_step T
  have G_agrees : FnOk P w K mg base CX0 5 T.f_agrees T.d_agrees ["_law_ratios", "_law_pairs"] (spAgrees T.f_Ratio) := ok_agrees T
  refine F.ok sc_law (fun vs H Q E h => ?_) (fun cdv A outer s H vs Q E hr h => ?_)
  · obtain ⟨a, ns, rfl, _⟩ := h
    rfl
  · obtain ⟨a, ns, rfl, hS, hlen, k⟩ := h
    refine ⟨_, (pss_cons (ps_set (i := 1) sc_law.nd rfl (Or.inl rfl) (pe_call G_start (hr.mono (by decide)) rfl T.m_start T.F_start.kp T.b_start .nil pass0 (pa_cons (pv 0) pa_nil)))
    (pss_cons (ps_set (i := 2) sc_law.nd rfl (Or.inl rfl) (pe_lst (pa_cons (pe_make T.mk_Ratio G_Ratio_init (hr.mono (by decide)) rfl T.m_Ratio T.b1_Ratio_init T.v1_Ratio_init pass0 (pa_cons pe_int pa_nil)) (pa_cons (pe_make T.mk_Ratio G_Ratio_init (hr.mono (by decide)) rfl T.m_Ratio T.b2_Ratio_init T.v2_Ratio_init pass0 (pa_cons pe_int (pa_cons pe_int pa_nil))) (pa_cons (pe_make T.mk_Ratio G_Ratio_init (hr.mono (by decide)) rfl T.m_Ratio T.b2_Ratio_init T.v2_Ratio_init pass0 (pa_cons (pe_un un_neg pe_int) (pa_cons pe_int pa_nil))) pa_nil)))))
    (pss_cons (ps_set (i := 3) sc_law.nd rfl (Or.inl rfl) (pe_lst (pa_cons (pe_tup (pa_cons pe_int (pa_cons pe_int pa_nil))) (pa_cons (pe_tup (pa_cons pe_int (pa_cons pe_int pa_nil))) (pa_cons (pe_tup (pa_cons (pe_un un_neg pe_int) (pa_cons pe_int pa_nil))) pa_nil)))))
    (C8.pss_cut (ps_for PassesOwn.never rfl (pi_range1 rfl T.n_range (pa_cons (pe_callB (cr_min rfl) (by rfl) T.n_min (by decide +kernel) (pa_cons (pe_lst (pa_cons pe_int (pa_cons (pe_op op_add (pe_callB call_len_seq (by rfl) T.n_len (by decide +kernel) (pa_cons (pv 0) pa_nil)) pe_int) pa_nil))) pa_nil)) pa_nil)) (pg_name (i := 4) sc_law.nd rfl (Or.inl rfl))
      (pss_cons (ps_set (i := 5) sc_law.nd rfl (Or.inl rfl) (pe_call G_draw (hr.mono (by decide)) rfl T.m_draw T.F_draw.kp T.b_draw .nil pass0 (pa_cons (pv 1) (pa_cons pe_int pa_nil))))
    (pss_cons (ps_asg (pe_call G_step (hr.mono (by decide)) rfl T.m_step T.F_step.kp T.b_step .nil pass0 (pa_cons (pv 1) (pa_cons (pv 2) (pa_cons (pv 3) pa_nil)))) (pg_tup rfl (pgs_cons (pg_name (i := 6) sc_law.nd rfl (Or.inl rfl)) (pgs_cons (pg_name (i := 7) sc_law.nd rfl (Or.inl rfl)) pgs_nil))))
    (C8.pss_cut (ps_if (PW.pt (pw_or (pt_cmpR op_gt (pe_callB call_len_str (by rfl) T.n_len (by decide +kernel) (pa_cons (pe_callTy call_str_int (by rfl) T.n_str (by decide +kernel) (pa_cons (pe_callB call_abs (by rfl) T.n_abs (by decide +kernel) (pa_cons (pe_ix ix_tup (pv 7) pe_int (fun _ _ => rfl)) pa_nil)) pa_nil)) pa_nil)) pe_int (nomark _)) (pw_or1 (pt_cmpR op_gt (pe_callB call_len_str (by rfl) T.n_len (by decide +kernel) (pa_cons (pe_callTy call_str_int (by rfl) T.n_str (by decide +kernel) (pa_cons (pe_ix ix_tup (pv 7) pe_int (fun _ _ => rfl)) pa_nil)) pa_nil)) pe_int (nomark _)))))
      (pss_one (ps_par (i := 6) (j := 7) (by rfl) sc_law.nd rfl rfl (by decide) rfl rfl (pa_cons (pe_make T.mk_Ratio G_Ratio_init (hr.mono (by decide)) rfl T.m_Ratio T.b2_Ratio_init T.v2_Ratio_init pass0 (pa_cons (pv 4) (pa_cons pe_int pa_nil))) (pa_cons (pe_call G_low (hr.mono (by decide)) rfl T.m_low T.F_low.kp T.b_low .nil pass0 (pa_cons (pv 4) (pa_cons pe_int pa_nil))) pa_nil)) (by rfl)))
      pss_nil)
    (pss_cons (ps_asg (pv 6) (pg_sub (pv 2) (pv 5) set_list))
    (pss_cons (ps_asg (pv 7) (pg_sub (pv 3) (pv 5) set_list))
    (C8.pss_cut (ps_if (pt_cmpR op_eq (pe_call G_draw (hr.mono (by decide)) rfl T.m_draw T.F_draw.kp T.b_draw .nil pass0 (pa_cons (pv 1) (pa_cons pe_int pa_nil))) pe_int (nomark _))
      (pss_cons (ps_augS (pv 2) (pv 5) get_list pe_int (fun pins s σ H x y u v Q I rx ry h => (iop_oi (nm := "add") rfl T.noi_Ratio_add T.op_Ratio_add G_Ratio_add (hr.mono (by decide)) T.b_Ratio_add pass0) pins s σ H x y u v Q I rx ry h) set_list)
    (pss_one (ps_asg (pe_call G_plus (hr.mono (by decide)) rfl T.m_plus T.F_plus.kp T.b_plus .nil pass0 (pa_cons (pv 7) (pa_cons (pe_tup (pa_cons pe_int (pa_cons pe_int pa_nil))) pa_nil))) (pg_sub (pv 3) (pv 5) set_list))))
      pss_nil)
    (pss_one (ps_if (pt_not (pt_val (pe_call G_agrees (hr.mono (by decide)) rfl T.m_agrees T.F_agrees.kp T.b_agrees .nil pass0 (pa_cons (pv 2) (pa_cons (pv 3) pa_nil)))))
      (pss_one (ps_ret pe_bl))
      pss_nil)))))))))
    (pss_one (ps_ret pe_bl)))))), ?_⟩
    have z2 : 2 ≤ sizeLine := by decide
    have z3 : 3 ≤ sizeLine := by decide
    refine ⟨_, rfl, a, ns, rfl, hS, hlen, fun st H1 d1 => ?_⟩
    -- the registers
    refine fun x0 dx0 nx0 nd0 _ => ⟨x0, dx0, 0, 1, rfl, upd_same, by decide, big_one, fun H2 r2 e2 => ⟨rfl, ?_⟩⟩
    have s2 := Same.made nx0 nd0 e2
    refine fun x1 dx1 nx1 nd1 _ => ⟨x1, dx1, 1, 2, rfl, upd_same, by decide, (sm41 (by decide +kernel)).big, fun H3 r3 e3 => ⟨rfl, ?_⟩⟩
    have s3 := Same.made nx1 nd1 e3
    refine ⟨3, rfl, fun x2 dx2 nx2 nd2 _ => ⟨x2, dx2, -3, 7, rfl, upd_same, by decide, (sm41 (by decide +kernel)).big, fun H4 r4 e4 => ⟨rfl, ?_⟩⟩⟩
    have s4 := Same.made nx2 nd2 e4
    refine ⟨z3, fun lr hlr => ?_⟩
    have s5 := same_upd (o := .lst [V.ref x0, V.ref x1, V.ref x2]) hlr
    refine ⟨z2, fun q0 hq0 => ⟨z2, fun q1 hq1 => ⟨3, rfl, z2, fun q2 hq2 => ⟨z3, fun lp hlp => ?_⟩⟩⟩⟩
    have s6 := same_upd (o := .tup [V.int 0, V.int 1]) hq0
    have s7 := same_upd (o := .tup [V.int 1, V.int 2]) hq1
    have s8 := same_upd (o := .tup [V.int (-3), V.int 7]) hq2
    have s9 := same_upd (o := .lst [V.ref q0, V.ref q1, V.ref q2]) hlp
    have l0 : Low 0 1 := Low.one 0
    have l1 : Low 1 2 := ⟨by decide, by decide⟩
    have l2 : Low (-3) 7 := ⟨by decide, by decide⟩
    rw [l0.tt, l0.bb] at r2
    rw [l1.tt, l1.bb] at r3
    rw [l2.tt, l2.bb] at r4
    -- what is known at first
    obtain ⟨G4, d4, _, k4⟩ := (d1.on ((s2.trans s3).trans s4)).grow
    have v5 := same_upd (o := .lst [V.ref x0, V.ref x1, V.ref x2]) (d4.free hlr)
    have d5 := d4.new (o := .lst [V.ref x0, V.ref x1, V.ref x2]) hlr
    have v6 := same_upd (o := .tup [V.int 0, V.int 1]) (d5.free hq0)
    have d6 := d5.new (o := .tup [V.int 0, V.int 1]) hq0
    have v7 := same_upd (o := .tup [V.int 1, V.int 2]) (d6.free hq1)
    have d7 := d6.new (o := .tup [V.int 1, V.int 2]) hq1
    have v8 := same_upd (o := .tup [V.int (-3), V.int 7]) (d7.free hq2)
    have d8 := d7.new (o := .tup [V.int (-3), V.int 7]) hq2
    have v9 := same_upd (o := .lst [V.ref q0, V.ref q1, V.ref q2]) (d8.free hlp)
    have d9 := d8.new (o := .lst [V.ref q0, V.ref q1, V.ref q2]) hlp
    have v59 := (((v5.trans v6).trans v7).trans v8).trans v9
    have nlp : lr ≠ lp := ne_of_none ((((s6.trans s7).trans s8)) _ _ upd_same) hlp
    have reg0 : Regs T.f_Ratio _ lr lp (tri x0 x1 x2) (tri q0 q1 q2) (tri 0 1 (-3)) (tri 1 2 7) :=
      ⟨(((v6.trans v7).trans v8).trans v9) _ _ upd_same, upd_same, nlp,
        all3 (((r2.on (s3.trans s4)).ins k4).on v59) (((r3.on s4).ins k4).on v59) ((r4.ins k4).on v59),
        all3 (((v7.trans v8).trans v9) _ _ upd_same) ((v8.trans v9) _ _ upd_same) (v9 _ _ upd_same),
        all3 l0 l1 l2, all3 (by decide +kernel) (by decide +kernel) (by decide +kernel), all3 (by decide +kernel) (by decide +kernel) (by decide +kernel)⟩
    -- how often
    have hS9 := ((((((((d1.same.trans s2).trans s3).trans s4).trans s5).trans s6).trans s7).trans s8).trans s9).seq hS
    refine ⟨fun σ H' => True, ?_, fun σ H' _ => k H'⟩
    refine ⟨_, rfl, a, ns.map V.int, rfl, .inl hS9, _, _, rfl, rfl, z2, fun l hl => ?_⟩
    refine ⟨l, [60, ((ns.map V.int).length : Int) + 4], rfl, SqL.of upd_same, Nat.succ_pos _, fun mm hmm hle => ?_⟩
    have hm0 : 0 ≤ mm ∧ mm ≤ 60 := by
      refine ⟨?_, hle 60 List.mem_cons_self⟩
      rcases List.mem_cons.mp hmm with e | e
      · rw [e]; decide
      · rw [List.mem_singleton.mp e]; omega
    refine ⟨mm, rfl, by omega, by omega, ?_⟩
    refine for_range (lo := 0) (n := mm.toNat) (fun u σ H' => ∃ (x4 x5 x6 x7 : Option V) (r q : Nat → Addr) (t b : Nat → Int) (G : Hp), σ = [some (.ref a), some (.ref st), some (.ref lr), some (.ref lp), x4, x5, x6, x7] ∧ Regs T.f_Ratio G lr lp r q t b ∧ DSt G H' st (u * 6)) ⟨none, none, none, none, _, _, _, _, _, rfl, reg0, d9.on (same_upd hl)⟩ ?_ (fun _ _ _ => trivial)
    rintro u σ H5 hu ⟨x4, x5, x6, x7, r, q, t, b, G, rfl, g, d⟩
    rw [Int.zero_add]
    have hu60 : u < 60 := by omega
    refine ⟨_, rfl, G, st, u * 6, 3, rfl, d, by omega, by decide, by decide, fun ij H6 j0 j1 d6 => ?_⟩
    obtain ⟨j, rfl, hj⟩ := nat3 j0 j1
    refine ⟨_, rfl, _, rfl, _, rfl, st, lr, lp, r, q, t, b, G, u * 6 + 1, rfl, g, d6, by omega, fun o x y H7 tu tv ho rx py lxy hx110 hy110 d7 => ?_⟩
    refine ⟨o, _, rfl, SqT.of ho, rfl, _, _, rfl, _, _, rfl, rfl, ?_⟩
    -- not too long
    refine ⟨fun σ H' => ∃ (x y : Addr) (tu tv : Int), σ = [some (.ref a), some (.ref st), some (.ref lr), some (.ref lp), some (.int (u : Int)), some (.int (j : Int)), some (.ref x), some (.ref y)] ∧ RatAt T.f_Ratio H' x tu tv ∧ PairAt H' y tu tv ∧ Low tu tv ∧ tu.natAbs < 10 ^ 40 ∧ tv.natAbs < 10 ^ 40 ∧ DSt G H' st (u * 6 + 5), ?_, ?_⟩
    · have ab := abs_of tu
      have h110 : (((tu.natAbs : Nat) : Int)).natAbs < 10 ^ 110 := by rw [Int.natAbs_natCast]; exact hx110
      have uu100 : ((u : Nat) : Int).natAbs < 100 := by omega
      have lu3 := Low.of (t := ((u : Nat) : Int)) (b := 3) (by decide)
      have bu := low_bd (x := ((u : Nat) : Int)) (y := 3) (n := 10 ^ 40) (by decide) (small40 uu100) (by decide +kernel)
      refine ⟨_, rfl, y, _, 0, .int tu, rfl, rfl, SqT.of py, rfl, tu, rfl, ?_⟩
      rw [ab]
      refine ⟨_, rfl, log_110 h110, _, rfl, Nat.le_trans (dec_len (by decide) h110) (by decide), _, 40, rfl, rfl, _, rfl, ite2 (fun _ => ?_) fun g1 => ?_⟩
      · refine ⟨_, rfl, fun z0 dz0 nz ndz nez => ⟨z0, dz0, (u : Int), 3, rfl, upd_same, by decide, (sm41 (by decide +kernel)).big, fun H8 r8 e8 => ⟨rfl, ?_⟩⟩⟩
        have s8 := Same.made nz ndz e8
        refine ⟨_, rfl, (u : Int), 3, rfl, by decide, (sm41 (by decide +kernel)).big, fun y2 H9 ny9 s9 py9 => ?_⟩
        exact ⟨_, _, rfl, z0, y2, _, _, rfl, r8.on s9, py9, lu3, bu.1, bu.2, (d7.on s8).on s9⟩
      · refine ⟨_, rfl, y, _, 1, .int tv, rfl, rfl, SqT.of py, rfl, _, rfl, log_110 hy110, _, rfl, Nat.le_trans (dec_len (by decide) hy110) (by decide), _, 40, rfl, rfl, _, rfl, ite2 (fun _ => ?_) fun g2 => ?_⟩
        · refine ⟨_, rfl, fun z0 dz0 nz ndz nez => ⟨z0, dz0, (u : Int), 3, rfl, upd_same, by decide, (sm41 (by decide +kernel)).big, fun H8 r8 e8 => ⟨rfl, ?_⟩⟩⟩
          have s8 := Same.made nz ndz e8
          refine ⟨_, rfl, (u : Int), 3, rfl, by decide, (sm41 (by decide +kernel)).big, fun y2 H9 ny9 s9 py9 => ?_⟩
          exact ⟨_, _, rfl, z0, y2, _, _, rfl, r8.on s9, py9, lu3, bu.1, bu.2, (d7.on s8).on s9⟩
        · refine ⟨x, y, tu, tv, rfl, rx, py, lxy, ?_, dec_smallN (k := 40) (by have := lxy.1; omega) (fun z => g2 (decide_eq_true z)), d7⟩
          have := dec_smallN (n := ((tu.natAbs : Nat) : Int)) (k := 40) (by omega) (fun z => g1 (decide_eq_true z))
          rw [Int.natAbs_natCast] at this
          exact this
    rintro σ H8 ⟨x, y, tu, tv, rfl, rx, py, lxy, hx, hy, d8⟩
    obtain ⟨G8, e8, sg8, k8⟩ := d8.grow
    have gR := g.rat.on sg8
    have gP := g.prs.on sg8
    have rx8 := rx.ins k8
    have py8 := py.ins k8
    refine ⟨_, rfl, _, rfl, _, rfl, lr, _, (j : Int), j, rfl, rfl, e8.same _ _ gR.hr, ix_nat (n := 3) hj, ?_⟩
    have e9 := e8.put (o := .lst ([V.ref (r 0), .ref (r 1), .ref (r 2)].set j (.ref x))) gR.hr
    have gR9 := gR.set hj rx8
    have gP9 := gP.put (zs := [V.ref (r 0), .ref (r 1), .ref (r 2)].set j (.ref x)) gR.hr nlp.symm
    have py9 := py8.put (zs := [V.ref (r 0), .ref (r 1), .ref (r 2)].set j (.ref x)) gR.hr
    have rx9 := rx8.put (zs := [V.ref (r 0), .ref (r 1), .ref (r 2)].set j (.ref x)) gR.hr
    refine ⟨_, rfl, _, rfl, _, rfl, lp, _, (j : Int), j, rfl, rfl, e9.same _ _ gP9.hp, ix_nat (n := 3) hj, ?_⟩
    have e10 := e9.put (o := .lst ([V.ref (q 0), .ref (q 1), .ref (q 2)].set j (.ref y))) gP9.hp
    have gP10 := gP9.set hj py9
    have gR10 := gR9.put (zs := [V.ref (q 0), .ref (q 1), .ref (q 2)].set j (.ref y)) gP9.hp nlp
    have py10 := py9.put (zs := [V.ref (q 0), .ref (q 1), .ref (q 2)].set j (.ref y)) gP9.hp
    have rx10 := rx9.put (zs := [V.ref (q 0), .ref (q 1), .ref (q 2)].set j (.ref y)) gP9.hp
    have good10 := g.good.set (j := j) lxy (b41_40 hx) (b41_40 hy)
    have regs10 := Regs.of nlp gR10 gP10 good10
    refine ⟨fun σ H' => ∃ (x6 x7 : Option V) (r q : Nat → Addr) (t b : Nat → Int) (G : Hp), σ = [some (.ref a), some (.ref st), some (.ref lr), some (.ref lp), some (.int (u : Int)), some (.int (j : Int)), x6, x7] ∧ Regs T.f_Ratio G lr lp r q t b ∧ DSt G H' st (u * 6 + 6), ?_, ?_⟩
    · refine ⟨_, rfl, _, st, u * 6 + 5, 4, rfl, e10, by omega, by decide, by decide, fun rr H11 _ _ d11 => ⟨rfl, _, rfl, ite2 (fun _ => ?_) fun _ => ⟨_, _, _, _, _, _, _, rfl, regs10, d11⟩⟩⟩
      have o41 : (1 : Int).natAbs < 10 ^ 41 := by decide +kernel
      have rx11 := rx10.on d11.same
      obtain ⟨dx, hdx⟩ := id rx11
      have ax : atI [V.ref ((fun i => if i = j then x else r i) 0), .ref ((fun i => if i = j then x else r i) 1), .ref ((fun i => if i = j then x else r i) 2)] (j : Int) = some (.ref x) :=
        (at3 (f := fun i => V.ref (if i = j then x else r i)) hj).trans (by
          show some (V.ref (if j = j then x else r j)) = _
          rw [if_pos rfl])
      refine ⟨_, rfl, _, rfl, lr, _, (j : Int), .ref x, rfl, rfl, SqL.of (d11.same _ _ gR10.hr), by omega, ax, x, dx, _, 1, rfl, rfl, hdx, x, .int 1, tu, tv, 1, 1, rfl, rx11, .inl ⟨rfl, rfl⟩, sm41 (b41_40 hx), sm41 (b41_40 hy), sm41 o41, sm41 o41, lxy.ne, by decide, fun x2 H12 nx12 s12 rx2 => ?_⟩
      obtain ⟨G12, e12, sg12, k12⟩ := (d11.on s12).grow
      have gR12 := gR10.on sg12
      have gP12 := gP10.on sg12
      have rx2' := rx2.ins k12
      refine ⟨lr, _, (j : Int), j, rfl, rfl, e12.same _ _ gR12.hr, ix_nat (n := 3) hj, ?_⟩
      have e13 := e12.put (o := .lst ([V.ref (if 0 = j then x else r 0), .ref (if 1 = j then x else r 1), .ref (if 2 = j then x else r 2)].set j (.ref x2))) gR12.hr
      have gR13 := gR12.set hj rx2'
      have gP13 := gP12.put (zs := [V.ref (if 0 = j then x else r 0), .ref (if 1 = j then x else r 1), .ref (if 2 = j then x else r 2)].set j (.ref x2)) gR12.hr nlp.symm
      have py13 := (py10.on sg12).put (zs := [V.ref (if 0 = j then x else r 0), .ref (if 1 = j then x else r 1), .ref (if 2 = j then x else r 2)].set j (.ref x2)) gR12.hr
      refine ⟨_, rfl, z2, fun o2 ho2 => ⟨y, o2, tu, tv, 1, 1, rfl, (py13.on e13.same).on (same_upd ho2), upd_same, sm41 (b41_40 hx), sm41 (b41_40 hy), sm41 o41, sm41 o41, lxy.ne, by decide, fun y2 H14 ny14 s14 py2 => ?_⟩⟩
      obtain ⟨G14, e14, sg14, k14⟩ := ((e13.on (same_upd (o := .tup [V.int 1, V.int 1]) ho2)).on s14).grow
      have gR14 := gR13.on sg14
      have gP14 := gP13.on sg14
      have py2' := py2.ins k14
      refine ⟨_, rfl, _, rfl, lp, _, (j : Int), j, rfl, rfl, e14.same _ _ gP14.hp, ix_nat (n := 3) hj, ?_⟩
      have ny : tv * 1 ≠ 0 := by rw [Int.mul_one]; exact lxy.ne
      have bd : (lowT (tu * 1 + 1 * tv) (tv * 1)).natAbs < 10 ^ 41 ∧ (lowB (tu * 1 + 1 * tv) (tv * 1)).natAbs < 10 ^ 41 := low_bd ny (by
        rw [Int.mul_one, Int.one_mul]
        exact Nat.lt_of_le_of_lt (Int.natAbs_add_le _ _) (Nat.lt_of_lt_of_le (Nat.add_lt_add hx hy) (by decide +kernel))) (by rw [Int.mul_one]; exact b41_40 hy)
      exact ⟨_, _, _, _, _, _, _, rfl, Regs.of nlp (gR14.put gP14.hp nlp) (gP14.set hj py2') (good10.set (j := j) (Low.of ny) bd.1 bd.2), e14.put gP14.hp⟩
    · rintro σ H15 ⟨x6, x7, r', q', t', b', G', rfl, g', d'⟩
      refine ⟨_, rfl, _, rfl, lr, lp, r', q', t', b', rfl, g'.on d'.same, fun H16 s16 => ⟨_, rfl, iteF ?_⟩⟩
      exact ⟨_, _, _, _, r', q', t', b', G', rfl, g', (d'.on s16).mono (by omega)⟩
end

theorem all_mk {l : PySem.W.OpenLaw} {w : World} {K : PySem.W.Frag} {h : Heap} {mg : Str → Option Value} {f_Ratio f_as_ratio f_least f_greatest f_numeral f_start f_draw f_low f_plus f_times f_less f_is f_text f_agrees f_step f_Ratio_init dT_Ratio_init f_Ratio_top p_Ratio_top f_Ratio_bottom p_Ratio_bottom f_Ratio_sign p_Ratio_sign f_Ratio_over f_Ratio_below f_Ratio_neg f_Ratio_add f_Ratio_sub f_Ratio_rsub f_Ratio_mul f_Ratio_eq f_Ratio_str f_Ratio_radd f_Ratio_rmul fa f_law : Addr} {od_as_ratio an_as_ratio od_least an_least od_greatest an_greatest od_numeral an_numeral od_start an_start od_draw an_draw od_low an_low od_plus an_plus od_times an_times od_less an_less od_is an_is od_text an_text od_agrees an_agrees od_step an_step od_Ratio_init an_Ratio_init dd0_Ratio_init od_Ratio_top an_Ratio_top od_Ratio_bottom an_Ratio_bottom od_Ratio_sign an_Ratio_sign od_Ratio_over an_Ratio_over od_Ratio_below an_Ratio_below od_Ratio_neg an_Ratio_neg od_Ratio_add an_Ratio_add od_Ratio_sub an_Ratio_sub od_Ratio_rsub an_Ratio_rsub od_Ratio_mul an_Ratio_mul od_Ratio_eq an_Ratio_eq od_Ratio_str an_Ratio_str od_law an_law : Option Addr} {sl_as_ratio sl_least sl_greatest sl_numeral sl_start sl_draw sl_low sl_plus sl_times sl_less sl_is sl_text sl_agrees sl_step sl_Ratio_init ds_Ratio_init sl_Ratio_top sl_Ratio_bottom sl_Ratio_sign sl_Ratio_over sl_Ratio_below sl_Ratio_neg sl_Ratio_add sl_Ratio_sub sl_Ratio_rsub sl_Ratio_mul sl_Ratio_eq sl_Ratio_str sl_law : Array (Option Value)} {oc_as_ratio kV_as_ratio dc_as_ratio pm_as_ratio cd_as_ratio ct_as_ratio oc_least kV_least dc_least pm_least cd_least ct_least oc_greatest kV_greatest dc_greatest pm_greatest cd_greatest ct_greatest oc_numeral kV_numeral dc_numeral pm_numeral cd_numeral ct_numeral oc_start kV_start dc_start pm_start cd_start ct_start oc_draw kV_draw dc_draw pm_draw cd_draw ct_draw oc_low kV_low dc_low pm_low cd_low ct_low oc_plus kV_plus dc_plus pm_plus cd_plus ct_plus oc_times kV_times dc_times pm_times cd_times ct_times oc_less kV_less dc_less pm_less cd_less ct_less oc_is kV_is dc_is pm_is cd_is ct_is oc_text kV_text dc_text pm_text cd_text ct_text oc_agrees kV_agrees dc_agrees pm_agrees cd_agrees ct_agrees oc_step kV_step dc_step pm_step cd_step ct_step oc_Ratio_init kV_Ratio_init dc_Ratio_init pm_Ratio_init cd_Ratio_init ct_Ratio_init dc0_Ratio_init oc_Ratio_top kV_Ratio_top dc_Ratio_top pm_Ratio_top cd_Ratio_top ct_Ratio_top oc_Ratio_bottom kV_Ratio_bottom dc_Ratio_bottom pm_Ratio_bottom cd_Ratio_bottom ct_Ratio_bottom oc_Ratio_sign kV_Ratio_sign dc_Ratio_sign pm_Ratio_sign cd_Ratio_sign ct_Ratio_sign oc_Ratio_over kV_Ratio_over dc_Ratio_over pm_Ratio_over cd_Ratio_over ct_Ratio_over oc_Ratio_below kV_Ratio_below dc_Ratio_below pm_Ratio_below cd_Ratio_below ct_Ratio_below oc_Ratio_neg kV_Ratio_neg dc_Ratio_neg pm_Ratio_neg cd_Ratio_neg ct_Ratio_neg oc_Ratio_add kV_Ratio_add dc_Ratio_add pm_Ratio_add cd_Ratio_add ct_Ratio_add oc_Ratio_sub kV_Ratio_sub dc_Ratio_sub pm_Ratio_sub cd_Ratio_sub ct_Ratio_sub oc_Ratio_rsub kV_Ratio_rsub dc_Ratio_rsub pm_Ratio_rsub cd_Ratio_rsub ct_Ratio_rsub oc_Ratio_mul kV_Ratio_mul dc_Ratio_mul pm_Ratio_mul cd_Ratio_mul ct_Ratio_mul oc_Ratio_eq kV_Ratio_eq dc_Ratio_eq pm_Ratio_eq cd_Ratio_eq ct_Ratio_eq oc_Ratio_str kV_Ratio_str dc_Ratio_str pm_Ratio_str cd_Ratio_str ct_Ratio_str oc_law kV_law dc_law pm_law cd_law ct_law : Value} {dt_Ratio_init t_PIECE t_PIECE_DIGITS : Tok} {dn_Ratio_init : Nat} {rs_Ratio_top rs_Ratio_bottom rs_Ratio_sign : List Value} {fo_Ratio_add ro_Ratio_add fo_Ratio_sub ro_Ratio_sub fo_Ratio_mul ro_Ratio_mul : Option Value} {cdd_Ratio : ClassData} (X : K.In h) (G : h.Ns mainGlobals mg) (hfa : mg "law" = some (.ref fa))
    (a_Ratio : PySem.W.nsIn K mainGlobals "Ratio" = some (some (.ref f_Ratio)))
    (pg_Ratio : PySem.W.plainGet K f_Ratio Str.empty = true)
    (hd_Ratio : PySem.W.hasDictIn K f_Ratio = true)
    (po_Ratio : PySem.W.plainOver K f_Ratio = true)
    (sa_Ratio : PySem.W.findIn K (.ref f_Ratio) "__setattr__" = some (some (.builtin "object.__setattr__")))
    (mk_Ratio : PySem.W.makesIn K f_Ratio = true)
    (kc_Ratio : PySem.W.keepIn K (.ref f_Ratio) = true)
    (hc_Ratio : PySem.W.findIn K (.ref f_Ratio) "__class__" = some (some (.builtin "object.__class__")))
    (mo_Ratio : PySem.W.mroIn K f_Ratio (.type "object") = some true)
    (ic_Ratio : PySem.W.isClsIn K f_Ratio = true)
    (ty_Ratio : PySem.W.typeIn K (.ref f_Ratio) = some (.type "type"))
    (hn_class : PySem.W.specialIn K (.builtin "object.__class__") "__get__" = some (some (.builtin "getset_descriptor.__get__")))
    (ht_class : PySem.W.takesIn K (.builtin "object.__class__") = some true)
    (na_Ratio_top : PySem.W.findIn K (.ref f_Ratio) "_top" = some none)
    (na_Ratio_bottom : PySem.W.findIn K (.ref f_Ratio) "_bottom" = some none)
    (su_Ratio_int : PySem.W.subIn K (.type "int") (.ref f_Ratio) = some false)
    (a_as_ratio : PySem.W.nsIn K mainGlobals "as_ratio" = some (some (.ref f_as_ratio)))
    (l_as_ratio : K.lookup f_as_ratio = some ⟨oc_as_ratio, od_as_ratio, .func (PySem.W.fnOf "as_ratio" "as_ratio" (defArgs s_as_ratio) (defBody s_as_ratio) (defScope s_as_ratio) .none kV_as_ratio dc_as_ratio pm_as_ratio an_as_ratio cd_as_ratio ct_as_ratio), sl_as_ratio⟩)
    (c_as_ratio : PySem.W.codeIn K cd_as_ratio "as_ratio" = true)
    (k_as_ratio : PySem.W.keepIn K (.ref f_as_ratio) = true)
    (a_least : PySem.W.nsIn K mainGlobals "least" = some (some (.ref f_least)))
    (l_least : K.lookup f_least = some ⟨oc_least, od_least, .func (PySem.W.fnOf "least" "least" (defArgs s_least) (defBody s_least) (defScope s_least) .none kV_least dc_least pm_least an_least cd_least ct_least), sl_least⟩)
    (c_least : PySem.W.codeIn K cd_least "least" = true)
    (k_least : PySem.W.keepIn K (.ref f_least) = true)
    (a_greatest : PySem.W.nsIn K mainGlobals "greatest" = some (some (.ref f_greatest)))
    (l_greatest : K.lookup f_greatest = some ⟨oc_greatest, od_greatest, .func (PySem.W.fnOf "greatest" "greatest" (defArgs s_greatest) (defBody s_greatest) (defScope s_greatest) .none kV_greatest dc_greatest pm_greatest an_greatest cd_greatest ct_greatest), sl_greatest⟩)
    (c_greatest : PySem.W.codeIn K cd_greatest "greatest" = true)
    (k_greatest : PySem.W.keepIn K (.ref f_greatest) = true)
    (a_numeral : PySem.W.nsIn K mainGlobals "numeral" = some (some (.ref f_numeral)))
    (l_numeral : K.lookup f_numeral = some ⟨oc_numeral, od_numeral, .func (PySem.W.fnOf "numeral" "numeral" (defArgs s_numeral) (defBody s_numeral) (defScope s_numeral) .none kV_numeral dc_numeral pm_numeral an_numeral cd_numeral ct_numeral), sl_numeral⟩)
    (c_numeral : PySem.W.codeIn K cd_numeral "numeral" = true)
    (k_numeral : PySem.W.keepIn K (.ref f_numeral) = true)
    (a_start : PySem.W.nsIn K mainGlobals "_law_start" = some (some (.ref f_start)))
    (l_start : K.lookup f_start = some ⟨oc_start, od_start, .func (PySem.W.fnOf "_law_start" "_law_start" (defArgs s_start) (defBody s_start) (defScope s_start) .none kV_start dc_start pm_start an_start cd_start ct_start), sl_start⟩)
    (c_start : PySem.W.codeIn K cd_start "_law_start" = true)
    (k_start : PySem.W.keepIn K (.ref f_start) = true)
    (a_draw : PySem.W.nsIn K mainGlobals "_law_draw" = some (some (.ref f_draw)))
    (l_draw : K.lookup f_draw = some ⟨oc_draw, od_draw, .func (PySem.W.fnOf "_law_draw" "_law_draw" (defArgs s_draw) (defBody s_draw) (defScope s_draw) .none kV_draw dc_draw pm_draw an_draw cd_draw ct_draw), sl_draw⟩)
    (c_draw : PySem.W.codeIn K cd_draw "_law_draw" = true)
    (k_draw : PySem.W.keepIn K (.ref f_draw) = true)
    (a_low : PySem.W.nsIn K mainGlobals "_law_low" = some (some (.ref f_low)))
    (l_low : K.lookup f_low = some ⟨oc_low, od_low, .func (PySem.W.fnOf "_law_low" "_law_low" (defArgs s_low) (defBody s_low) (defScope s_low) .none kV_low dc_low pm_low an_low cd_low ct_low), sl_low⟩)
    (c_low : PySem.W.codeIn K cd_low "_law_low" = true)
    (k_low : PySem.W.keepIn K (.ref f_low) = true)
    (a_plus : PySem.W.nsIn K mainGlobals "_law_plus" = some (some (.ref f_plus)))
    (l_plus : K.lookup f_plus = some ⟨oc_plus, od_plus, .func (PySem.W.fnOf "_law_plus" "_law_plus" (defArgs s_plus) (defBody s_plus) (defScope s_plus) .none kV_plus dc_plus pm_plus an_plus cd_plus ct_plus), sl_plus⟩)
    (c_plus : PySem.W.codeIn K cd_plus "_law_plus" = true)
    (k_plus : PySem.W.keepIn K (.ref f_plus) = true)
    (a_times : PySem.W.nsIn K mainGlobals "_law_times" = some (some (.ref f_times)))
    (l_times : K.lookup f_times = some ⟨oc_times, od_times, .func (PySem.W.fnOf "_law_times" "_law_times" (defArgs s_times) (defBody s_times) (defScope s_times) .none kV_times dc_times pm_times an_times cd_times ct_times), sl_times⟩)
    (c_times : PySem.W.codeIn K cd_times "_law_times" = true)
    (k_times : PySem.W.keepIn K (.ref f_times) = true)
    (a_less : PySem.W.nsIn K mainGlobals "_law_less" = some (some (.ref f_less)))
    (l_less : K.lookup f_less = some ⟨oc_less, od_less, .func (PySem.W.fnOf "_law_less" "_law_less" (defArgs s_less) (defBody s_less) (defScope s_less) .none kV_less dc_less pm_less an_less cd_less ct_less), sl_less⟩)
    (c_less : PySem.W.codeIn K cd_less "_law_less" = true)
    (k_less : PySem.W.keepIn K (.ref f_less) = true)
    (a_is : PySem.W.nsIn K mainGlobals "_law_is" = some (some (.ref f_is)))
    (l_is : K.lookup f_is = some ⟨oc_is, od_is, .func (PySem.W.fnOf "_law_is" "_law_is" (defArgs s_is) (defBody s_is) (defScope s_is) .none kV_is dc_is pm_is an_is cd_is ct_is), sl_is⟩)
    (c_is : PySem.W.codeIn K cd_is "_law_is" = true)
    (k_is : PySem.W.keepIn K (.ref f_is) = true)
    (a_text : PySem.W.nsIn K mainGlobals "_law_text" = some (some (.ref f_text)))
    (l_text : K.lookup f_text = some ⟨oc_text, od_text, .func (PySem.W.fnOf "_law_text" "_law_text" (defArgs s_text) (defBody s_text) (defScope s_text) .none kV_text dc_text pm_text an_text cd_text ct_text), sl_text⟩)
    (c_text : PySem.W.codeIn K cd_text "_law_text" = true)
    (k_text : PySem.W.keepIn K (.ref f_text) = true)
    (a_agrees : PySem.W.nsIn K mainGlobals "_law_agrees" = some (some (.ref f_agrees)))
    (l_agrees : K.lookup f_agrees = some ⟨oc_agrees, od_agrees, .func (PySem.W.fnOf "_law_agrees" "_law_agrees" (defArgs s_agrees) (defBody s_agrees) (defScope s_agrees) .none kV_agrees dc_agrees pm_agrees an_agrees cd_agrees ct_agrees), sl_agrees⟩)
    (c_agrees : PySem.W.codeIn K cd_agrees "_law_agrees" = true)
    (k_agrees : PySem.W.keepIn K (.ref f_agrees) = true)
    (a_step : PySem.W.nsIn K mainGlobals "_law_step" = some (some (.ref f_step)))
    (l_step : K.lookup f_step = some ⟨oc_step, od_step, .func (PySem.W.fnOf "_law_step" "_law_step" (defArgs s_step) (defBody s_step) (defScope s_step) .none kV_step dc_step pm_step an_step cd_step ct_step), sl_step⟩)
    (c_step : PySem.W.codeIn K cd_step "_law_step" = true)
    (k_step : PySem.W.keepIn K (.ref f_step) = true)
    (a_Ratio_init : PySem.W.findIn K (.ref f_Ratio) "__init__" = some (some (.ref f_Ratio_init)))
    (i_Ratio_init : PySem.W.isFn K (.ref f_Ratio_init) = true)
    (l_Ratio_init : K.lookup f_Ratio_init = some ⟨oc_Ratio_init, od_Ratio_init, .func (PySem.W.fnOf "__init__" "Ratio.__init__" (defArgs s_Ratio_init) (defBody s_Ratio_init) (defScope s_Ratio_init) (.ref dT_Ratio_init) kV_Ratio_init dc_Ratio_init pm_Ratio_init an_Ratio_init cd_Ratio_init ct_Ratio_init), sl_Ratio_init⟩)
    (c_Ratio_init : PySem.W.codeIn K cd_Ratio_init "Ratio.__init__" = true)
    (k_Ratio_init : PySem.W.keepIn K (.ref f_Ratio_init) = true)
    (t_Ratio_init : K.lookup dT_Ratio_init = some ⟨dc0_Ratio_init, dd0_Ratio_init, .seq #[.int 1 dt_Ratio_init] dn_Ratio_init, ds_Ratio_init⟩)
    (a_Ratio_top : PySem.W.findIn K (.ref f_Ratio) "top" = some (some (.ref p_Ratio_top)))
    (pg_Ratio_top : PySem.W.specialIn K (.ref p_Ratio_top) "__get__" = some (some (.builtin "property.__get__")))
    (pt_Ratio_top : PySem.W.takesIn K (.ref p_Ratio_top) = some true)
    (pr_Ratio_top : PySem.W.recIn K p_Ratio_top "property" = some (.ref f_Ratio_top :: rs_Ratio_top))
    (l_Ratio_top : K.lookup f_Ratio_top = some ⟨oc_Ratio_top, od_Ratio_top, .func (PySem.W.fnOf "top" "Ratio.top" (defArgs s_Ratio_top) (defBody s_Ratio_top) (defScope s_Ratio_top) .none kV_Ratio_top dc_Ratio_top pm_Ratio_top an_Ratio_top cd_Ratio_top ct_Ratio_top), sl_Ratio_top⟩)
    (c_Ratio_top : PySem.W.codeIn K cd_Ratio_top "Ratio.top" = true)
    (k_Ratio_top : PySem.W.keepIn K (.ref f_Ratio_top) = true)
    (a_Ratio_bottom : PySem.W.findIn K (.ref f_Ratio) "bottom" = some (some (.ref p_Ratio_bottom)))
    (pg_Ratio_bottom : PySem.W.specialIn K (.ref p_Ratio_bottom) "__get__" = some (some (.builtin "property.__get__")))
    (pt_Ratio_bottom : PySem.W.takesIn K (.ref p_Ratio_bottom) = some true)
    (pr_Ratio_bottom : PySem.W.recIn K p_Ratio_bottom "property" = some (.ref f_Ratio_bottom :: rs_Ratio_bottom))
    (l_Ratio_bottom : K.lookup f_Ratio_bottom = some ⟨oc_Ratio_bottom, od_Ratio_bottom, .func (PySem.W.fnOf "bottom" "Ratio.bottom" (defArgs s_Ratio_bottom) (defBody s_Ratio_bottom) (defScope s_Ratio_bottom) .none kV_Ratio_bottom dc_Ratio_bottom pm_Ratio_bottom an_Ratio_bottom cd_Ratio_bottom ct_Ratio_bottom), sl_Ratio_bottom⟩)
    (c_Ratio_bottom : PySem.W.codeIn K cd_Ratio_bottom "Ratio.bottom" = true)
    (k_Ratio_bottom : PySem.W.keepIn K (.ref f_Ratio_bottom) = true)
    (a_Ratio_sign : PySem.W.findIn K (.ref f_Ratio) "sign" = some (some (.ref p_Ratio_sign)))
    (pg_Ratio_sign : PySem.W.specialIn K (.ref p_Ratio_sign) "__get__" = some (some (.builtin "property.__get__")))
    (pt_Ratio_sign : PySem.W.takesIn K (.ref p_Ratio_sign) = some true)
    (pr_Ratio_sign : PySem.W.recIn K p_Ratio_sign "property" = some (.ref f_Ratio_sign :: rs_Ratio_sign))
    (l_Ratio_sign : K.lookup f_Ratio_sign = some ⟨oc_Ratio_sign, od_Ratio_sign, .func (PySem.W.fnOf "sign" "Ratio.sign" (defArgs s_Ratio_sign) (defBody s_Ratio_sign) (defScope s_Ratio_sign) .none kV_Ratio_sign dc_Ratio_sign pm_Ratio_sign an_Ratio_sign cd_Ratio_sign ct_Ratio_sign), sl_Ratio_sign⟩)
    (c_Ratio_sign : PySem.W.codeIn K cd_Ratio_sign "Ratio.sign" = true)
    (k_Ratio_sign : PySem.W.keepIn K (.ref f_Ratio_sign) = true)
    (a_Ratio_over : PySem.W.findIn K (.ref f_Ratio) "over" = some (some (.ref f_Ratio_over)))
    (i_Ratio_over : PySem.W.isFn K (.ref f_Ratio_over) = true)
    (l_Ratio_over : K.lookup f_Ratio_over = some ⟨oc_Ratio_over, od_Ratio_over, .func (PySem.W.fnOf "over" "Ratio.over" (defArgs s_Ratio_over) (defBody s_Ratio_over) (defScope s_Ratio_over) .none kV_Ratio_over dc_Ratio_over pm_Ratio_over an_Ratio_over cd_Ratio_over ct_Ratio_over), sl_Ratio_over⟩)
    (c_Ratio_over : PySem.W.codeIn K cd_Ratio_over "Ratio.over" = true)
    (k_Ratio_over : PySem.W.keepIn K (.ref f_Ratio_over) = true)
    (a_Ratio_below : PySem.W.findIn K (.ref f_Ratio) "below" = some (some (.ref f_Ratio_below)))
    (i_Ratio_below : PySem.W.isFn K (.ref f_Ratio_below) = true)
    (l_Ratio_below : K.lookup f_Ratio_below = some ⟨oc_Ratio_below, od_Ratio_below, .func (PySem.W.fnOf "below" "Ratio.below" (defArgs s_Ratio_below) (defBody s_Ratio_below) (defScope s_Ratio_below) .none kV_Ratio_below dc_Ratio_below pm_Ratio_below an_Ratio_below cd_Ratio_below ct_Ratio_below), sl_Ratio_below⟩)
    (c_Ratio_below : PySem.W.codeIn K cd_Ratio_below "Ratio.below" = true)
    (k_Ratio_below : PySem.W.keepIn K (.ref f_Ratio_below) = true)
    (a_Ratio_neg : PySem.W.findIn K (.ref f_Ratio) "__neg__" = some (some (.ref f_Ratio_neg)))
    (i_Ratio_neg : PySem.W.isFn K (.ref f_Ratio_neg) = true)
    (l_Ratio_neg : K.lookup f_Ratio_neg = some ⟨oc_Ratio_neg, od_Ratio_neg, .func (PySem.W.fnOf "__neg__" "Ratio.__neg__" (defArgs s_Ratio_neg) (defBody s_Ratio_neg) (defScope s_Ratio_neg) .none kV_Ratio_neg dc_Ratio_neg pm_Ratio_neg an_Ratio_neg cd_Ratio_neg ct_Ratio_neg), sl_Ratio_neg⟩)
    (c_Ratio_neg : PySem.W.codeIn K cd_Ratio_neg "Ratio.__neg__" = true)
    (k_Ratio_neg : PySem.W.keepIn K (.ref f_Ratio_neg) = true)
    (a_Ratio_add : PySem.W.findIn K (.ref f_Ratio) "__add__" = some (some (.ref f_Ratio_add)))
    (i_Ratio_add : PySem.W.isFn K (.ref f_Ratio_add) = true)
    (l_Ratio_add : K.lookup f_Ratio_add = some ⟨oc_Ratio_add, od_Ratio_add, .func (PySem.W.fnOf "__add__" "Ratio.__add__" (defArgs s_Ratio_add) (defBody s_Ratio_add) (defScope s_Ratio_add) .none kV_Ratio_add dc_Ratio_add pm_Ratio_add an_Ratio_add cd_Ratio_add ct_Ratio_add), sl_Ratio_add⟩)
    (c_Ratio_add : PySem.W.codeIn K cd_Ratio_add "Ratio.__add__" = true)
    (k_Ratio_add : PySem.W.keepIn K (.ref f_Ratio_add) = true)
    (a_Ratio_sub : PySem.W.findIn K (.ref f_Ratio) "__sub__" = some (some (.ref f_Ratio_sub)))
    (i_Ratio_sub : PySem.W.isFn K (.ref f_Ratio_sub) = true)
    (l_Ratio_sub : K.lookup f_Ratio_sub = some ⟨oc_Ratio_sub, od_Ratio_sub, .func (PySem.W.fnOf "__sub__" "Ratio.__sub__" (defArgs s_Ratio_sub) (defBody s_Ratio_sub) (defScope s_Ratio_sub) .none kV_Ratio_sub dc_Ratio_sub pm_Ratio_sub an_Ratio_sub cd_Ratio_sub ct_Ratio_sub), sl_Ratio_sub⟩)
    (c_Ratio_sub : PySem.W.codeIn K cd_Ratio_sub "Ratio.__sub__" = true)
    (k_Ratio_sub : PySem.W.keepIn K (.ref f_Ratio_sub) = true)
    (a_Ratio_rsub : PySem.W.findIn K (.ref f_Ratio) "__rsub__" = some (some (.ref f_Ratio_rsub)))
    (i_Ratio_rsub : PySem.W.isFn K (.ref f_Ratio_rsub) = true)
    (l_Ratio_rsub : K.lookup f_Ratio_rsub = some ⟨oc_Ratio_rsub, od_Ratio_rsub, .func (PySem.W.fnOf "__rsub__" "Ratio.__rsub__" (defArgs s_Ratio_rsub) (defBody s_Ratio_rsub) (defScope s_Ratio_rsub) .none kV_Ratio_rsub dc_Ratio_rsub pm_Ratio_rsub an_Ratio_rsub cd_Ratio_rsub ct_Ratio_rsub), sl_Ratio_rsub⟩)
    (c_Ratio_rsub : PySem.W.codeIn K cd_Ratio_rsub "Ratio.__rsub__" = true)
    (k_Ratio_rsub : PySem.W.keepIn K (.ref f_Ratio_rsub) = true)
    (a_Ratio_mul : PySem.W.findIn K (.ref f_Ratio) "__mul__" = some (some (.ref f_Ratio_mul)))
    (i_Ratio_mul : PySem.W.isFn K (.ref f_Ratio_mul) = true)
    (l_Ratio_mul : K.lookup f_Ratio_mul = some ⟨oc_Ratio_mul, od_Ratio_mul, .func (PySem.W.fnOf "__mul__" "Ratio.__mul__" (defArgs s_Ratio_mul) (defBody s_Ratio_mul) (defScope s_Ratio_mul) .none kV_Ratio_mul dc_Ratio_mul pm_Ratio_mul an_Ratio_mul cd_Ratio_mul ct_Ratio_mul), sl_Ratio_mul⟩)
    (c_Ratio_mul : PySem.W.codeIn K cd_Ratio_mul "Ratio.__mul__" = true)
    (k_Ratio_mul : PySem.W.keepIn K (.ref f_Ratio_mul) = true)
    (a_Ratio_eq : PySem.W.findIn K (.ref f_Ratio) "__eq__" = some (some (.ref f_Ratio_eq)))
    (i_Ratio_eq : PySem.W.isFn K (.ref f_Ratio_eq) = true)
    (l_Ratio_eq : K.lookup f_Ratio_eq = some ⟨oc_Ratio_eq, od_Ratio_eq, .func (PySem.W.fnOf "__eq__" "Ratio.__eq__" (defArgs s_Ratio_eq) (defBody s_Ratio_eq) (defScope s_Ratio_eq) .none kV_Ratio_eq dc_Ratio_eq pm_Ratio_eq an_Ratio_eq cd_Ratio_eq ct_Ratio_eq), sl_Ratio_eq⟩)
    (c_Ratio_eq : PySem.W.codeIn K cd_Ratio_eq "Ratio.__eq__" = true)
    (k_Ratio_eq : PySem.W.keepIn K (.ref f_Ratio_eq) = true)
    (a_Ratio_str : PySem.W.findIn K (.ref f_Ratio) "__str__" = some (some (.ref f_Ratio_str)))
    (i_Ratio_str : PySem.W.isFn K (.ref f_Ratio_str) = true)
    (l_Ratio_str : K.lookup f_Ratio_str = some ⟨oc_Ratio_str, od_Ratio_str, .func (PySem.W.fnOf "__str__" "Ratio.__str__" (defArgs s_Ratio_str) (defBody s_Ratio_str) (defScope s_Ratio_str) .none kV_Ratio_str dc_Ratio_str pm_Ratio_str an_Ratio_str cd_Ratio_str ct_Ratio_str), sl_Ratio_str⟩)
    (c_Ratio_str : PySem.W.codeIn K cd_Ratio_str "Ratio.__str__" = true)
    (k_Ratio_str : PySem.W.keepIn K (.ref f_Ratio_str) = true)
    (sf_Ratio : PySem.W.selfFirst K f_Ratio = true)
    (us_Ratio : PySem.W.subIn K (.ref f_Ratio) (.type "int") = some false)
    (a_Ratio_radd : PySem.W.findIn K (.ref f_Ratio) "__radd__" = some (some (.ref f_Ratio_radd)))
    (i_Ratio_radd : PySem.W.isFn K (.ref f_Ratio_radd) = true)
    (i1_Ratio_add : PySem.W.findIn K (.type "int") "__add__" = some fo_Ratio_add)
    (i2_Ratio_add : PySem.W.findIn K (.type "int") "__radd__" = some ro_Ratio_add)
    (i1_Ratio_sub : PySem.W.findIn K (.type "int") "__sub__" = some fo_Ratio_sub)
    (i2_Ratio_sub : PySem.W.findIn K (.type "int") "__rsub__" = some ro_Ratio_sub)
    (a_Ratio_rmul : PySem.W.findIn K (.ref f_Ratio) "__rmul__" = some (some (.ref f_Ratio_rmul)))
    (i_Ratio_rmul : PySem.W.isFn K (.ref f_Ratio_rmul) = true)
    (i1_Ratio_mul : PySem.W.findIn K (.type "int") "__mul__" = some fo_Ratio_mul)
    (i2_Ratio_mul : PySem.W.findIn K (.type "int") "__rmul__" = some ro_Ratio_mul)
    (cc_Ratio : PySem.W.clsIn K f_Ratio = some cdd_Ratio)
    (mr_Ratio : cdd_Ratio.mro = [.ref f_Ratio, .type "object"])
    (no1_Ratio_add : PySem.W.findIn K (.ref f_Ratio) "__iadd__" = some none)
    (no2_Ratio_add : PySem.W.findIn K (.type "object") "__iadd__" = some none)
    (q_PIECE : PySem.W.nsIn K mainGlobals "PIECE" = some (some (.int 10000000000000000000000000000000000000000000000000000000000000000 t_PIECE)))
    (q_PIECE_DIGITS : PySem.W.nsIn K mainGlobals "PIECE_DIGITS" = some (some (.int 64 t_PIECE_DIGITS)))
    (g_gcd : PySem.W.nsIn K mainGlobals "gcd" = some (some (.builtin "math.gcd")))
    (z_abs : PySem.W.nsIn K mainGlobals "abs" = some none)
    (z_divmod : PySem.W.nsIn K mainGlobals "divmod" = some none)
    (z_int : PySem.W.nsIn K mainGlobals "int" = some none)
    (z_isinstance : PySem.W.nsIn K mainGlobals "isinstance" = some none)
    (z_len : PySem.W.nsIn K mainGlobals "len" = some none)
    (z_list : PySem.W.nsIn K mainGlobals "list" = some none)
    (z_min : PySem.W.nsIn K mainGlobals "min" = some none)
    (z_range : PySem.W.nsIn K mainGlobals "range" = some none)
    (z_str : PySem.W.nsIn K mainGlobals "str" = some none)
    (a_law : PySem.W.nsIn K mainGlobals "law" = some (some (.ref f_law)))
    (l_law : K.lookup f_law = some ⟨oc_law, od_law, .func (PySem.W.fnOf "law" "law" (defArgs s_law) (defBody s_law) (defScope s_law) .none kV_law dc_law pm_law an_law cd_law ct_law), sl_law⟩)
    (c_law : PySem.W.codeIn K cd_law "law" = true)
    (k_law : PySem.W.keepIn K (.ref f_law) = true)
    : ∃ fd : FuncData, (∀ (s : Shared) (v : Value), BindsTo s fd ⟨[v], []⟩ [("_law_script", v)]) ∧ ∀ base : Heap, K.In base → base.Ns mainGlobals mg → FnOk l.prog w K mg base CX0 8 fa fd ["_law_script"] (spLaw K) := by
  have e := hfa.symm.trans (PySem.W.mg_of X G a_law)
  cases e
  obtain ⟨e1_Ratio_init, ev1_Ratio_init, eb1_Ratio_init⟩ := FunD.binds1 (K := K) (f := f_Ratio_init) (fd := PySem.W.fnOf "__init__" "Ratio.__init__" (defArgs s_Ratio_init) (defBody s_Ratio_init) (defScope s_Ratio_init) (.ref dT_Ratio_init) kV_Ratio_init dc_Ratio_init pm_Ratio_init an_Ratio_init cd_Ratio_init ct_Ratio_init) (dvs := [V.int 1]) (kws := []) (ps := ["self", "top", "bottom"]) ⟨⟨_, _, _, _, _, _, _, _, _, _, rfl, l_Ratio_init, c_Ratio_init, .inr ⟨by simp, _, _, [.int 1 dt_Ratio_init], _, rfl, t_Ratio_init, rfl, .cons ⟨_, rfl⟩ .nil⟩, .inl rfl⟩, k_Ratio_init⟩ 2 0 (by simp) rfl fun _ _ _ _ _ _ _ us its hl hi => match us, hl, its, hi with | [_, _], _, [_], _ => ⟨_, rfl, rfl⟩
  obtain ⟨e2_Ratio_init, ev2_Ratio_init, eb2_Ratio_init⟩ := FunD.binds1 (K := K) (f := f_Ratio_init) (fd := PySem.W.fnOf "__init__" "Ratio.__init__" (defArgs s_Ratio_init) (defBody s_Ratio_init) (defScope s_Ratio_init) (.ref dT_Ratio_init) kV_Ratio_init dc_Ratio_init pm_Ratio_init an_Ratio_init cd_Ratio_init ct_Ratio_init) (dvs := [V.int 1]) (kws := []) (ps := ["self", "top", "bottom"]) ⟨⟨_, _, _, _, _, _, _, _, _, _, rfl, l_Ratio_init, c_Ratio_init, .inr ⟨by simp, _, _, [.int 1 dt_Ratio_init], _, rfl, t_Ratio_init, rfl, .cons ⟨_, rfl⟩ .nil⟩, .inl rfl⟩, k_Ratio_init⟩ 3 1 (by simp) rfl fun _ _ _ _ _ _ _ us its hl hi => match us, hl, its, hi with | [_, _, _], _, [_], _ => ⟨_, rfl, rfl⟩
  have T : Txt K mg := {
    f_Ratio := f_Ratio,
    m_Ratio := PySem.W.mg_of X G a_Ratio,
    cl_Ratio := ⟨pg_Ratio, hd_Ratio, po_Ratio, sa_Ratio⟩,
    ic_Ratio := ⟨⟨pg_Ratio, hd_Ratio, po_Ratio, sa_Ratio⟩, hc_Ratio, hn_class, ht_class, mo_Ratio, kit_self⟩,
    na_Ratio_top := na_Ratio_top,
    na_Ratio_bottom := na_Ratio_bottom,
    ki_Ratio_int := kit_not ic_Ratio ty_Ratio su_Ratio_int (fun z => nomatch z),
    f_as_ratio := f_as_ratio,
    d_as_ratio := PySem.W.fnOf "as_ratio" "as_ratio" (defArgs s_as_ratio) (defBody s_as_ratio) (defScope s_as_ratio) .none kV_as_ratio dc_as_ratio pm_as_ratio an_as_ratio cd_as_ratio ct_as_ratio,
    F_as_ratio := fun_mk (st := s_as_ratio) l_as_ratio c_as_ratio k_as_ratio,
    b_as_ratio := (fun_mk (st := s_as_ratio) l_as_ratio c_as_ratio k_as_ratio).binds (ps := ["value"]) fun _ _ _ _ _ _ us hl => match us, hl with | [_], _ => rfl,
    m_as_ratio := PySem.W.mg_of X G a_as_ratio,
    f_least := f_least,
    d_least := PySem.W.fnOf "least" "least" (defArgs s_least) (defBody s_least) (defScope s_least) .none kV_least dc_least pm_least an_least cd_least ct_least,
    F_least := fun_mk (st := s_least) l_least c_least k_least,
    b_least := (fun_mk (st := s_least) l_least c_least k_least).binds (ps := ["values"]) fun _ _ _ _ _ _ us hl => match us, hl with | [_], _ => rfl,
    m_least := PySem.W.mg_of X G a_least,
    f_greatest := f_greatest,
    d_greatest := PySem.W.fnOf "greatest" "greatest" (defArgs s_greatest) (defBody s_greatest) (defScope s_greatest) .none kV_greatest dc_greatest pm_greatest an_greatest cd_greatest ct_greatest,
    F_greatest := fun_mk (st := s_greatest) l_greatest c_greatest k_greatest,
    b_greatest := (fun_mk (st := s_greatest) l_greatest c_greatest k_greatest).binds (ps := ["values"]) fun _ _ _ _ _ _ us hl => match us, hl with | [_], _ => rfl,
    m_greatest := PySem.W.mg_of X G a_greatest,
    f_numeral := f_numeral,
    d_numeral := PySem.W.fnOf "numeral" "numeral" (defArgs s_numeral) (defBody s_numeral) (defScope s_numeral) .none kV_numeral dc_numeral pm_numeral an_numeral cd_numeral ct_numeral,
    F_numeral := fun_mk (st := s_numeral) l_numeral c_numeral k_numeral,
    b_numeral := (fun_mk (st := s_numeral) l_numeral c_numeral k_numeral).binds (ps := ["number"]) fun _ _ _ _ _ _ us hl => match us, hl with | [_], _ => rfl,
    m_numeral := PySem.W.mg_of X G a_numeral,
    f_start := f_start,
    d_start := PySem.W.fnOf "_law_start" "_law_start" (defArgs s_start) (defBody s_start) (defScope s_start) .none kV_start dc_start pm_start an_start cd_start ct_start,
    F_start := fun_mk (st := s_start) l_start c_start k_start,
    b_start := (fun_mk (st := s_start) l_start c_start k_start).binds (ps := ["_law_script"]) fun _ _ _ _ _ _ us hl => match us, hl with | [_], _ => rfl,
    m_start := PySem.W.mg_of X G a_start,
    f_draw := f_draw,
    d_draw := PySem.W.fnOf "_law_draw" "_law_draw" (defArgs s_draw) (defBody s_draw) (defScope s_draw) .none kV_draw dc_draw pm_draw an_draw cd_draw ct_draw,
    F_draw := fun_mk (st := s_draw) l_draw c_draw k_draw,
    b_draw := (fun_mk (st := s_draw) l_draw c_draw k_draw).binds (ps := ["_law_state", "_law_size"]) fun _ _ _ _ _ _ us hl => match us, hl with | [_, _], _ => rfl,
    m_draw := PySem.W.mg_of X G a_draw,
    f_low := f_low,
    d_low := PySem.W.fnOf "_law_low" "_law_low" (defArgs s_low) (defBody s_low) (defScope s_low) .none kV_low dc_low pm_low an_low cd_low ct_low,
    F_low := fun_mk (st := s_low) l_low c_low k_low,
    b_low := (fun_mk (st := s_low) l_low c_low k_low).binds (ps := ["_law_up", "_law_down"]) fun _ _ _ _ _ _ us hl => match us, hl with | [_, _], _ => rfl,
    m_low := PySem.W.mg_of X G a_low,
    f_plus := f_plus,
    d_plus := PySem.W.fnOf "_law_plus" "_law_plus" (defArgs s_plus) (defBody s_plus) (defScope s_plus) .none kV_plus dc_plus pm_plus an_plus cd_plus ct_plus,
    F_plus := fun_mk (st := s_plus) l_plus c_plus k_plus,
    b_plus := (fun_mk (st := s_plus) l_plus c_plus k_plus).binds (ps := ["_law_one", "_law_two"]) fun _ _ _ _ _ _ us hl => match us, hl with | [_, _], _ => rfl,
    m_plus := PySem.W.mg_of X G a_plus,
    f_times := f_times,
    d_times := PySem.W.fnOf "_law_times" "_law_times" (defArgs s_times) (defBody s_times) (defScope s_times) .none kV_times dc_times pm_times an_times cd_times ct_times,
    F_times := fun_mk (st := s_times) l_times c_times k_times,
    b_times := (fun_mk (st := s_times) l_times c_times k_times).binds (ps := ["_law_one", "_law_two"]) fun _ _ _ _ _ _ us hl => match us, hl with | [_, _], _ => rfl,
    m_times := PySem.W.mg_of X G a_times,
    f_less := f_less,
    d_less := PySem.W.fnOf "_law_less" "_law_less" (defArgs s_less) (defBody s_less) (defScope s_less) .none kV_less dc_less pm_less an_less cd_less ct_less,
    F_less := fun_mk (st := s_less) l_less c_less k_less,
    b_less := (fun_mk (st := s_less) l_less c_less k_less).binds (ps := ["_law_one", "_law_two"]) fun _ _ _ _ _ _ us hl => match us, hl with | [_, _], _ => rfl,
    m_less := PySem.W.mg_of X G a_less,
    f_is := f_is,
    d_is := PySem.W.fnOf "_law_is" "_law_is" (defArgs s_is) (defBody s_is) (defScope s_is) .none kV_is dc_is pm_is an_is cd_is ct_is,
    F_is := fun_mk (st := s_is) l_is c_is k_is,
    b_is := (fun_mk (st := s_is) l_is c_is k_is).binds (ps := ["_law_actual", "_law_pair"]) fun _ _ _ _ _ _ us hl => match us, hl with | [_, _], _ => rfl,
    m_is := PySem.W.mg_of X G a_is,
    f_text := f_text,
    d_text := PySem.W.fnOf "_law_text" "_law_text" (defArgs s_text) (defBody s_text) (defScope s_text) .none kV_text dc_text pm_text an_text cd_text ct_text,
    F_text := fun_mk (st := s_text) l_text c_text k_text,
    b_text := (fun_mk (st := s_text) l_text c_text k_text).binds (ps := ["_law_pair"]) fun _ _ _ _ _ _ us hl => match us, hl with | [_], _ => rfl,
    m_text := PySem.W.mg_of X G a_text,
    f_agrees := f_agrees,
    d_agrees := PySem.W.fnOf "_law_agrees" "_law_agrees" (defArgs s_agrees) (defBody s_agrees) (defScope s_agrees) .none kV_agrees dc_agrees pm_agrees an_agrees cd_agrees ct_agrees,
    F_agrees := fun_mk (st := s_agrees) l_agrees c_agrees k_agrees,
    b_agrees := (fun_mk (st := s_agrees) l_agrees c_agrees k_agrees).binds (ps := ["_law_ratios", "_law_pairs"]) fun _ _ _ _ _ _ us hl => match us, hl with | [_, _], _ => rfl,
    m_agrees := PySem.W.mg_of X G a_agrees,
    f_step := f_step,
    d_step := PySem.W.fnOf "_law_step" "_law_step" (defArgs s_step) (defBody s_step) (defScope s_step) .none kV_step dc_step pm_step an_step cd_step ct_step,
    F_step := fun_mk (st := s_step) l_step c_step k_step,
    b_step := (fun_mk (st := s_step) l_step c_step k_step).binds (ps := ["_law_state", "_law_ratios", "_law_pairs"]) fun _ _ _ _ _ _ us hl => match us, hl with | [_, _, _], _ => rfl,
    m_step := PySem.W.mg_of X G a_step,
    f_Ratio_init := f_Ratio_init,
    d_Ratio_init := PySem.W.fnOf "__init__" "Ratio.__init__" (defArgs s_Ratio_init) (defBody s_Ratio_init) (defScope s_Ratio_init) (.ref dT_Ratio_init) kV_Ratio_init dc_Ratio_init pm_Ratio_init an_Ratio_init cd_Ratio_init ct_Ratio_init,
    F_Ratio_init := ⟨⟨_, _, _, _, _, _, _, _, _, _, rfl, l_Ratio_init, c_Ratio_init, .inr ⟨by simp, _, _, [.int 1 dt_Ratio_init], _, rfl, t_Ratio_init, rfl, .cons ⟨_, rfl⟩ .nil⟩, .inl rfl⟩, k_Ratio_init⟩,
    a_Ratio_init := a_Ratio_init,
    i_Ratio_init := i_Ratio_init,
    mk_Ratio := ⟨mk_Ratio, a_Ratio_init, i_Ratio_init, kc_Ratio⟩,
    f_Ratio_top := f_Ratio_top,
    d_Ratio_top := PySem.W.fnOf "top" "Ratio.top" (defArgs s_Ratio_top) (defBody s_Ratio_top) (defScope s_Ratio_top) .none kV_Ratio_top dc_Ratio_top pm_Ratio_top an_Ratio_top cd_Ratio_top ct_Ratio_top,
    F_Ratio_top := fun_mk (st := s_Ratio_top) l_Ratio_top c_Ratio_top k_Ratio_top,
    b_Ratio_top := (fun_mk (st := s_Ratio_top) l_Ratio_top c_Ratio_top k_Ratio_top).binds (ps := ["self"]) fun _ _ _ _ _ _ us hl => match us, hl with | [_], _ => rfl,
    p0_Ratio_top := p_Ratio_top,
    p_Ratio_top := ⟨a_Ratio_top, pg_Ratio_top, pt_Ratio_top, ⟨_, pr_Ratio_top⟩⟩,
    f_Ratio_bottom := f_Ratio_bottom,
    d_Ratio_bottom := PySem.W.fnOf "bottom" "Ratio.bottom" (defArgs s_Ratio_bottom) (defBody s_Ratio_bottom) (defScope s_Ratio_bottom) .none kV_Ratio_bottom dc_Ratio_bottom pm_Ratio_bottom an_Ratio_bottom cd_Ratio_bottom ct_Ratio_bottom,
    F_Ratio_bottom := fun_mk (st := s_Ratio_bottom) l_Ratio_bottom c_Ratio_bottom k_Ratio_bottom,
    b_Ratio_bottom := (fun_mk (st := s_Ratio_bottom) l_Ratio_bottom c_Ratio_bottom k_Ratio_bottom).binds (ps := ["self"]) fun _ _ _ _ _ _ us hl => match us, hl with | [_], _ => rfl,
    p0_Ratio_bottom := p_Ratio_bottom,
    p_Ratio_bottom := ⟨a_Ratio_bottom, pg_Ratio_bottom, pt_Ratio_bottom, ⟨_, pr_Ratio_bottom⟩⟩,
    f_Ratio_sign := f_Ratio_sign,
    d_Ratio_sign := PySem.W.fnOf "sign" "Ratio.sign" (defArgs s_Ratio_sign) (defBody s_Ratio_sign) (defScope s_Ratio_sign) .none kV_Ratio_sign dc_Ratio_sign pm_Ratio_sign an_Ratio_sign cd_Ratio_sign ct_Ratio_sign,
    F_Ratio_sign := fun_mk (st := s_Ratio_sign) l_Ratio_sign c_Ratio_sign k_Ratio_sign,
    b_Ratio_sign := (fun_mk (st := s_Ratio_sign) l_Ratio_sign c_Ratio_sign k_Ratio_sign).binds (ps := ["self"]) fun _ _ _ _ _ _ us hl => match us, hl with | [_], _ => rfl,
    p0_Ratio_sign := p_Ratio_sign,
    p_Ratio_sign := ⟨a_Ratio_sign, pg_Ratio_sign, pt_Ratio_sign, ⟨_, pr_Ratio_sign⟩⟩,
    f_Ratio_over := f_Ratio_over,
    d_Ratio_over := PySem.W.fnOf "over" "Ratio.over" (defArgs s_Ratio_over) (defBody s_Ratio_over) (defScope s_Ratio_over) .none kV_Ratio_over dc_Ratio_over pm_Ratio_over an_Ratio_over cd_Ratio_over ct_Ratio_over,
    F_Ratio_over := fun_mk (st := s_Ratio_over) l_Ratio_over c_Ratio_over k_Ratio_over,
    b_Ratio_over := (fun_mk (st := s_Ratio_over) l_Ratio_over c_Ratio_over k_Ratio_over).binds (ps := ["self", "value"]) fun _ _ _ _ _ _ us hl => match us, hl with | [_, _], _ => rfl,
    a_Ratio_over := a_Ratio_over,
    i_Ratio_over := i_Ratio_over,
    f_Ratio_below := f_Ratio_below,
    d_Ratio_below := PySem.W.fnOf "below" "Ratio.below" (defArgs s_Ratio_below) (defBody s_Ratio_below) (defScope s_Ratio_below) .none kV_Ratio_below dc_Ratio_below pm_Ratio_below an_Ratio_below cd_Ratio_below ct_Ratio_below,
    F_Ratio_below := fun_mk (st := s_Ratio_below) l_Ratio_below c_Ratio_below k_Ratio_below,
    b_Ratio_below := (fun_mk (st := s_Ratio_below) l_Ratio_below c_Ratio_below k_Ratio_below).binds (ps := ["self", "value"]) fun _ _ _ _ _ _ us hl => match us, hl with | [_, _], _ => rfl,
    a_Ratio_below := a_Ratio_below,
    i_Ratio_below := i_Ratio_below,
    f_Ratio_neg := f_Ratio_neg,
    d_Ratio_neg := PySem.W.fnOf "__neg__" "Ratio.__neg__" (defArgs s_Ratio_neg) (defBody s_Ratio_neg) (defScope s_Ratio_neg) .none kV_Ratio_neg dc_Ratio_neg pm_Ratio_neg an_Ratio_neg cd_Ratio_neg ct_Ratio_neg,
    F_Ratio_neg := fun_mk (st := s_Ratio_neg) l_Ratio_neg c_Ratio_neg k_Ratio_neg,
    b_Ratio_neg := (fun_mk (st := s_Ratio_neg) l_Ratio_neg c_Ratio_neg k_Ratio_neg).binds (ps := ["self"]) fun _ _ _ _ _ _ us hl => match us, hl with | [_], _ => rfl,
    a_Ratio_neg := a_Ratio_neg,
    i_Ratio_neg := i_Ratio_neg,
    f_Ratio_add := f_Ratio_add,
    d_Ratio_add := PySem.W.fnOf "__add__" "Ratio.__add__" (defArgs s_Ratio_add) (defBody s_Ratio_add) (defScope s_Ratio_add) .none kV_Ratio_add dc_Ratio_add pm_Ratio_add an_Ratio_add cd_Ratio_add ct_Ratio_add,
    F_Ratio_add := fun_mk (st := s_Ratio_add) l_Ratio_add c_Ratio_add k_Ratio_add,
    b_Ratio_add := (fun_mk (st := s_Ratio_add) l_Ratio_add c_Ratio_add k_Ratio_add).binds (ps := ["self", "other"]) fun _ _ _ _ _ _ us hl => match us, hl with | [_, _], _ => rfl,
    a_Ratio_add := a_Ratio_add,
    i_Ratio_add := i_Ratio_add,
    f_Ratio_sub := f_Ratio_sub,
    d_Ratio_sub := PySem.W.fnOf "__sub__" "Ratio.__sub__" (defArgs s_Ratio_sub) (defBody s_Ratio_sub) (defScope s_Ratio_sub) .none kV_Ratio_sub dc_Ratio_sub pm_Ratio_sub an_Ratio_sub cd_Ratio_sub ct_Ratio_sub,
    F_Ratio_sub := fun_mk (st := s_Ratio_sub) l_Ratio_sub c_Ratio_sub k_Ratio_sub,
    b_Ratio_sub := (fun_mk (st := s_Ratio_sub) l_Ratio_sub c_Ratio_sub k_Ratio_sub).binds (ps := ["self", "other"]) fun _ _ _ _ _ _ us hl => match us, hl with | [_, _], _ => rfl,
    a_Ratio_sub := a_Ratio_sub,
    i_Ratio_sub := i_Ratio_sub,
    f_Ratio_rsub := f_Ratio_rsub,
    d_Ratio_rsub := PySem.W.fnOf "__rsub__" "Ratio.__rsub__" (defArgs s_Ratio_rsub) (defBody s_Ratio_rsub) (defScope s_Ratio_rsub) .none kV_Ratio_rsub dc_Ratio_rsub pm_Ratio_rsub an_Ratio_rsub cd_Ratio_rsub ct_Ratio_rsub,
    F_Ratio_rsub := fun_mk (st := s_Ratio_rsub) l_Ratio_rsub c_Ratio_rsub k_Ratio_rsub,
    b_Ratio_rsub := (fun_mk (st := s_Ratio_rsub) l_Ratio_rsub c_Ratio_rsub k_Ratio_rsub).binds (ps := ["self", "other"]) fun _ _ _ _ _ _ us hl => match us, hl with | [_, _], _ => rfl,
    a_Ratio_rsub := a_Ratio_rsub,
    i_Ratio_rsub := i_Ratio_rsub,
    f_Ratio_mul := f_Ratio_mul,
    d_Ratio_mul := PySem.W.fnOf "__mul__" "Ratio.__mul__" (defArgs s_Ratio_mul) (defBody s_Ratio_mul) (defScope s_Ratio_mul) .none kV_Ratio_mul dc_Ratio_mul pm_Ratio_mul an_Ratio_mul cd_Ratio_mul ct_Ratio_mul,
    F_Ratio_mul := fun_mk (st := s_Ratio_mul) l_Ratio_mul c_Ratio_mul k_Ratio_mul,
    b_Ratio_mul := (fun_mk (st := s_Ratio_mul) l_Ratio_mul c_Ratio_mul k_Ratio_mul).binds (ps := ["self", "other"]) fun _ _ _ _ _ _ us hl => match us, hl with | [_, _], _ => rfl,
    a_Ratio_mul := a_Ratio_mul,
    i_Ratio_mul := i_Ratio_mul,
    f_Ratio_eq := f_Ratio_eq,
    d_Ratio_eq := PySem.W.fnOf "__eq__" "Ratio.__eq__" (defArgs s_Ratio_eq) (defBody s_Ratio_eq) (defScope s_Ratio_eq) .none kV_Ratio_eq dc_Ratio_eq pm_Ratio_eq an_Ratio_eq cd_Ratio_eq ct_Ratio_eq,
    F_Ratio_eq := fun_mk (st := s_Ratio_eq) l_Ratio_eq c_Ratio_eq k_Ratio_eq,
    b_Ratio_eq := (fun_mk (st := s_Ratio_eq) l_Ratio_eq c_Ratio_eq k_Ratio_eq).binds (ps := ["self", "other"]) fun _ _ _ _ _ _ us hl => match us, hl with | [_, _], _ => rfl,
    a_Ratio_eq := a_Ratio_eq,
    i_Ratio_eq := i_Ratio_eq,
    f_Ratio_str := f_Ratio_str,
    d_Ratio_str := PySem.W.fnOf "__str__" "Ratio.__str__" (defArgs s_Ratio_str) (defBody s_Ratio_str) (defScope s_Ratio_str) .none kV_Ratio_str dc_Ratio_str pm_Ratio_str an_Ratio_str cd_Ratio_str ct_Ratio_str,
    F_Ratio_str := fun_mk (st := s_Ratio_str) l_Ratio_str c_Ratio_str k_Ratio_str,
    b_Ratio_str := (fun_mk (st := s_Ratio_str) l_Ratio_str c_Ratio_str k_Ratio_str).binds (ps := ["self"]) fun _ _ _ _ _ _ us hl => match us, hl with | [_], _ => rfl,
    a_Ratio_str := a_Ratio_str,
    i_Ratio_str := i_Ratio_str,
    me_Ratio_over := ⟨a_Ratio_over, i_Ratio_over, k_Ratio_over⟩,
    me_Ratio_below := ⟨a_Ratio_below, i_Ratio_below, k_Ratio_below⟩,
    f_Ratio_radd := f_Ratio_radd,
    op_Ratio_add := ⟨sf_Ratio, a_Ratio_add, i_Ratio_add, a_Ratio_radd, i_Ratio_radd, ⟨_, i1_Ratio_add⟩, ⟨_, i2_Ratio_add⟩, su_Ratio_int, us_Ratio⟩,
    op_Ratio_sub := ⟨sf_Ratio, a_Ratio_sub, i_Ratio_sub, a_Ratio_rsub, i_Ratio_rsub, ⟨_, i1_Ratio_sub⟩, ⟨_, i2_Ratio_sub⟩, su_Ratio_int, us_Ratio⟩,
    f_Ratio_rmul := f_Ratio_rmul,
    op_Ratio_mul := ⟨sf_Ratio, a_Ratio_mul, i_Ratio_mul, a_Ratio_rmul, i_Ratio_rmul, ⟨_, i1_Ratio_mul⟩, ⟨_, i2_Ratio_mul⟩, su_Ratio_int, us_Ratio⟩,
    noi_Ratio_add := ⟨⟨_, cc_Ratio, mr_Ratio⟩, no1_Ratio_add, no2_Ratio_add⟩,
    e1_Ratio_init := e1_Ratio_init,
    v1_Ratio_init := ev1_Ratio_init,
    b1_Ratio_init := eb1_Ratio_init,
    e2_Ratio_init := e2_Ratio_init,
    v2_Ratio_init := ev2_Ratio_init,
    b2_Ratio_init := eb2_Ratio_init,
    t_PIECE := t_PIECE,
    c_PIECE := PySem.W.mg_of X G q_PIECE,
    t_PIECE_DIGITS := t_PIECE_DIGITS,
    c_PIECE_DIGITS := PySem.W.mg_of X G q_PIECE_DIGITS,
    g_gcd := PySem.W.mg_of X G g_gcd,
    n_abs := PySem.W.mg_none_of X G z_abs,
    n_divmod := PySem.W.mg_none_of X G z_divmod,
    n_int := PySem.W.mg_none_of X G z_int,
    n_isinstance := PySem.W.mg_none_of X G z_isinstance,
    n_len := PySem.W.mg_none_of X G z_len,
    n_list := PySem.W.mg_none_of X G z_list,
    n_min := PySem.W.mg_none_of X G z_min,
    n_range := PySem.W.mg_none_of X G z_range,
    n_str := PySem.W.mg_none_of X G z_str }
  exact ⟨PySem.W.fnOf "law" "law" (defArgs s_law) (defBody s_law) (defScope s_law) .none kV_law dc_law pm_law an_law cd_law ct_law, fun s v => .of_eq rfl, fun base _ _ => ok_law T (fun_mk (st := s_law) l_law c_law k_law)⟩
end My
open PySem PySem.W PyProof.Rows
set_option maxRecDepth 100000 in
set_option maxHeartbeats 0 in
theorem PySem.Challenge.cw_extralink_k06_whole_ratio_script_holds : PySem.Challenge.rw_extralink_k06_whole_ratio_script.Holds := by
  w_on; o_law; k_head; (case hw => w_witness2)
  k_fill
  refine L2.walk_of (l := PySem.Challenge.rw_extralink_k06_whole_ratio_script) (n := 63) (k := 8) (x := "_law_script") (CX := fun _ => L2.CX0) (sp := fun w => My.spLaw _) rfl (by decide) rfl ⟨rfl, by decide, by decide⟩ (fun w h Y => PySem.W.kIn_of Y) ?F (fun _ _ a ns hl _ hS => ⟨a, ns, rfl, hS, hl, fun _ => rfl⟩) (fun _ _ _ _ _ h => h)
  case F =>
    intro w mg fa h KX G hmg
    refine' My.all_mk KX G hmg ?a_Ratio ?pg_Ratio ?hd_Ratio ?po_Ratio ?sa_Ratio ?mk_Ratio ?kc_Ratio ?hc_Ratio ?mo_Ratio ?ic_Ratio ?ty_Ratio ?hn_class ?ht_class ?na_Ratio_top ?na_Ratio_bottom ?su_Ratio_int ?a_as_ratio ?l_as_ratio ?c_as_ratio ?k_as_ratio ?a_least ?l_least ?c_least ?k_least ?a_greatest ?l_greatest ?c_greatest ?k_greatest ?a_numeral ?l_numeral ?c_numeral ?k_numeral ?a_start ?l_start ?c_start ?k_start ?a_draw ?l_draw ?c_draw ?k_draw ?a_low ?l_low ?c_low ?k_low ?a_plus ?l_plus ?c_plus ?k_plus ?a_times ?l_times ?c_times ?k_times ?a_less ?l_less ?c_less ?k_less ?a_is ?l_is ?c_is ?k_is ?a_text ?l_text ?c_text ?k_text ?a_agrees ?l_agrees ?c_agrees ?k_agrees ?a_step ?l_step ?c_step ?k_step ?a_Ratio_init ?i_Ratio_init ?l_Ratio_init ?c_Ratio_init ?k_Ratio_init ?t_Ratio_init ?a_Ratio_top ?pg_Ratio_top ?pt_Ratio_top ?pr_Ratio_top ?l_Ratio_top ?c_Ratio_top ?k_Ratio_top ?a_Ratio_bottom ?pg_Ratio_bottom ?pt_Ratio_bottom ?pr_Ratio_bottom ?l_Ratio_bottom ?c_Ratio_bottom ?k_Ratio_bottom ?a_Ratio_sign ?pg_Ratio_sign ?pt_Ratio_sign ?pr_Ratio_sign ?l_Ratio_sign ?c_Ratio_sign ?k_Ratio_sign ?a_Ratio_over ?i_Ratio_over ?l_Ratio_over ?c_Ratio_over ?k_Ratio_over ?a_Ratio_below ?i_Ratio_below ?l_Ratio_below ?c_Ratio_below ?k_Ratio_below ?a_Ratio_neg ?i_Ratio_neg ?l_Ratio_neg ?c_Ratio_neg ?k_Ratio_neg ?a_Ratio_add ?i_Ratio_add ?l_Ratio_add ?c_Ratio_add ?k_Ratio_add ?a_Ratio_sub ?i_Ratio_sub ?l_Ratio_sub ?c_Ratio_sub ?k_Ratio_sub ?a_Ratio_rsub ?i_Ratio_rsub ?l_Ratio_rsub ?c_Ratio_rsub ?k_Ratio_rsub ?a_Ratio_mul ?i_Ratio_mul ?l_Ratio_mul ?c_Ratio_mul ?k_Ratio_mul ?a_Ratio_eq ?i_Ratio_eq ?l_Ratio_eq ?c_Ratio_eq ?k_Ratio_eq ?a_Ratio_str ?i_Ratio_str ?l_Ratio_str ?c_Ratio_str ?k_Ratio_str ?sf_Ratio ?us_Ratio ?a_Ratio_radd ?i_Ratio_radd ?i1_Ratio_add ?i2_Ratio_add ?i1_Ratio_sub ?i2_Ratio_sub ?a_Ratio_rmul ?i_Ratio_rmul ?i1_Ratio_mul ?i2_Ratio_mul ?cc_Ratio ?mr_Ratio ?no1_Ratio_add ?no2_Ratio_add ?q_PIECE ?q_PIECE_DIGITS ?g_gcd ?z_abs ?z_divmod ?z_int ?z_isinstance ?z_len ?z_list ?z_min ?z_range ?z_str ?a_law ?l_law ?c_law ?k_law
    (case a_Ratio => k_is)
    (case pg_Ratio => k_is)
    (case hd_Ratio => k_is)
    (case po_Ratio => k_is)
    (case sa_Ratio => k_is)
    (case mk_Ratio => k_is)
    (case kc_Ratio => k_is)
    (case hc_Ratio => k_is)
    (case mo_Ratio => k_is)
    (case ic_Ratio => k_is)
    (case ty_Ratio => k_is)
    (case hn_class => k_is)
    (case ht_class => k_is)
    (case na_Ratio_top => k_is)
    (case na_Ratio_bottom => k_is)
    (case su_Ratio_int => k_is)
    (case a_as_ratio => k_is)
    (case l_as_ratio => k_is)
    (case c_as_ratio => k_is)
    (case k_as_ratio => k_is)
    (case a_least => k_is)
    (case l_least => k_is)
    (case c_least => k_is)
    (case k_least => k_is)
    (case a_greatest => k_is)
    (case l_greatest => k_is)
    (case c_greatest => k_is)
    (case k_greatest => k_is)
    (case a_numeral => k_is)
    (case l_numeral => k_is)
    (case c_numeral => k_is)
    (case k_numeral => k_is)
    (case a_start => k_is)
    (case l_start => k_is)
    (case c_start => k_is)
    (case k_start => k_is)
    (case a_draw => k_is)
    (case l_draw => k_is)
    (case c_draw => k_is)
    (case k_draw => k_is)
    (case a_low => k_is)
    (case l_low => k_is)
    (case c_low => k_is)
    (case k_low => k_is)
    (case a_plus => k_is)
    (case l_plus => k_is)
    (case c_plus => k_is)
    (case k_plus => k_is)
    (case a_times => k_is)
    (case l_times => k_is)
    (case c_times => k_is)
    (case k_times => k_is)
    (case a_less => k_is)
    (case l_less => k_is)
    (case c_less => k_is)
    (case k_less => k_is)
    (case a_is => k_is)
    (case l_is => k_is)
    (case c_is => k_is)
    (case k_is => k_is)
    (case a_text => k_is)
    (case l_text => k_is)
    (case c_text => k_is)
    (case k_text => k_is)
    (case a_agrees => k_is)
    (case l_agrees => k_is)
    (case c_agrees => k_is)
    (case k_agrees => k_is)
    (case a_step => k_is)
    (case l_step => k_is)
    (case c_step => k_is)
    (case k_step => k_is)
    (case a_Ratio_init => k_is)
    (case i_Ratio_init => k_is)
    (case l_Ratio_init => k_is)
    (case c_Ratio_init => k_is)
    (case k_Ratio_init => k_is)
    (case t_Ratio_init => k_is)
    (case a_Ratio_top => k_is)
    (case pg_Ratio_top => k_is)
    (case pt_Ratio_top => k_is)
    (case pr_Ratio_top => k_is)
    (case l_Ratio_top => k_is)
    (case c_Ratio_top => k_is)
    (case k_Ratio_top => k_is)
    (case a_Ratio_bottom => k_is)
    (case pg_Ratio_bottom => k_is)
    (case pt_Ratio_bottom => k_is)
    (case pr_Ratio_bottom => k_is)
    (case l_Ratio_bottom => k_is)
    (case c_Ratio_bottom => k_is)
    (case k_Ratio_bottom => k_is)
    (case a_Ratio_sign => k_is)
    (case pg_Ratio_sign => k_is)
    (case pt_Ratio_sign => k_is)
    (case pr_Ratio_sign => k_is)
    (case l_Ratio_sign => k_is)
    (case c_Ratio_sign => k_is)
    (case k_Ratio_sign => k_is)
    (case a_Ratio_over => k_is)
    (case i_Ratio_over => k_is)
    (case l_Ratio_over => k_is)
    (case c_Ratio_over => k_is)
    (case k_Ratio_over => k_is)
    (case a_Ratio_below => k_is)
    (case i_Ratio_below => k_is)
    (case l_Ratio_below => k_is)
    (case c_Ratio_below => k_is)
    (case k_Ratio_below => k_is)
    (case a_Ratio_neg => k_is)
    (case i_Ratio_neg => k_is)
    (case l_Ratio_neg => k_is)
    (case c_Ratio_neg => k_is)
    (case k_Ratio_neg => k_is)
    (case a_Ratio_add => k_is)
    (case i_Ratio_add => k_is)
    (case l_Ratio_add => k_is)
    (case c_Ratio_add => k_is)
    (case k_Ratio_add => k_is)
    (case a_Ratio_sub => k_is)
    (case i_Ratio_sub => k_is)
    (case l_Ratio_sub => k_is)
    (case c_Ratio_sub => k_is)
    (case k_Ratio_sub => k_is)
    (case a_Ratio_rsub => k_is)
    (case i_Ratio_rsub => k_is)
    (case l_Ratio_rsub => k_is)
    (case c_Ratio_rsub => k_is)
    (case k_Ratio_rsub => k_is)
    (case a_Ratio_mul => k_is)
    (case i_Ratio_mul => k_is)
    (case l_Ratio_mul => k_is)
    (case c_Ratio_mul => k_is)
    (case k_Ratio_mul => k_is)
    (case a_Ratio_eq => k_is)
    (case i_Ratio_eq => k_is)
    (case l_Ratio_eq => k_is)
    (case c_Ratio_eq => k_is)
    (case k_Ratio_eq => k_is)
    (case a_Ratio_str => k_is)
    (case i_Ratio_str => k_is)
    (case l_Ratio_str => k_is)
    (case c_Ratio_str => k_is)
    (case k_Ratio_str => k_is)
    (case sf_Ratio => k_is)
    (case us_Ratio => k_is)
    (case a_Ratio_radd => k_is)
    (case i_Ratio_radd => k_is)
    (case i1_Ratio_add => k_is)
    (case i2_Ratio_add => k_is)
    (case i1_Ratio_sub => k_is)
    (case i2_Ratio_sub => k_is)
    (case a_Ratio_rmul => k_is)
    (case i_Ratio_rmul => k_is)
    (case i1_Ratio_mul => k_is)
    (case i2_Ratio_mul => k_is)
    (case cc_Ratio => k_is)
    (case mr_Ratio => rfl)
    (case no1_Ratio_add => k_is)
    (case no2_Ratio_add => k_is)
    (case q_PIECE => k_is)
    (case q_PIECE_DIGITS => k_is)
    (case g_gcd => k_is)
    (case z_abs => k_is)
    (case z_divmod => k_is)
    (case z_int => k_is)
    (case z_isinstance => k_is)
    (case z_len => k_is)
    (case z_list => k_is)
    (case z_min => k_is)
    (case z_range => k_is)
    (case z_str => k_is)
    (case a_law => k_is)
    (case l_law => k_is)
    (case c_law => k_is)
    (case k_law => k_is)

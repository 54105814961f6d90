import PyProof.Rows.All
import Wide.All
import OpenK.AllK
import Wide.FinOn
import HandS.Base
import HandS.Call
import HandS.List
import HandS.Comp
import HandS.Ends
import HandS.Dict
import HandS.Iter
import HandS.Text
import HandS.Words
import HandS.WordsList
import HandS.WordsDict
import HandS.Wide
import HandS.IsInst
import HandS.Codes
import HandS.Property
import HandS.ClsMeth
import HandS.Defaults
import HandS.MakeKw
import HandS.CallLocal
import HandS.CallSlots
import HandS.Exc
import HandS.ExcInit
import HandS.ExcField
import HandS.ExcIs
import HandS.ExcOwn
import HandS.TryOnly
import HandS.WordsExc
import HandS.Gcd
import HandS.FStr
import HandS.StrMore
import HandS.WideBits
import HandS.Style
import HandS.OwnEq
import OpenK.KMeth
import KE.KOpsOwn
import HandS.TupAny
import PyProof.InstEq
import HandS.HotCalls
import HandS.ExcValue
import HandS.Star
import HandS.Zip
import HandS.Walk
import HandS.DictComp
import HandS.Conv
import KE.KDictZip
import HandS.Deep
import HandS.TryMany
import OpenK.KOps
import HandS.Small
import HandS.SetFor
import HandS.Strs
import KE.SortData
import KE.GoesEnumKw
import PyProof.NeKinds
import HandS.Finally
import KE.KEqDict
import KE.KEqNest
import PySem.Challenge.RW_extralink_k62_cut_load
set_option Elab.async false
set_option linter.all false
set_option maxRecDepth 100000
/-! My own rules beside the hand layer's: an item of a list read for a store in place, a text backwards, a call by keywords alone; what is said of lists of ints as data. -/
namespace My
open PySem PySem.Spec PyProof.Rows L2

/-! ### rules -/
section
variable {X : Cx}
def rGetL (K : PySem.W.Frag) : V → V → Hp → VK → Prop := fun x y H Q => ∃ p xs i v, x = .ref p ∧ y = .int i ∧ SqL K H p xs ∧ 0 ≤ i ∧ atI xs i = some v ∧ Q v H
theorem get_list : PGet X (rGetL X.K) := by
  intro pins s σ H o i ov iv Q I ro ri h
  obtain ⟨p, xs, k, z, rfl, rfl, hq, h0, he, q⟩ := h
  cases ro
  obtain ⟨t, rfl⟩ := ri
  obtain ⟨its, r, pl, hz⟩ := I.list hq
  obtain ⟨j, h1, h2, h3, h4, h5⟩ := atI_get he
  obtain ⟨w, ew, rw'⟩ := r.get h2
  have hl := r.length
  have hn := line63
  have hj : k.toNat = j := by
    rw [seqIndex_of h0 h5] at h1
    exact Option.some.inj h1
  exact wpAny_getItem_list pl.isList h0 (by omega) (by rw [hj]; simpa using ew) ⟨z, H, I, rw', q⟩

def revS (z : Str) : Str := ⟨z.cps.reverse⟩
def tRevS (te : TE) : TE := fun σ H Q => te σ H fun x H1 => ∃ z, x = .str z ∧ z.length ≤ sizeLine ∧ Q (.str (revS z)) H1
theorem range_back (n : Nat) : sliceRange ((n : Int) - 1) (-1) (-1) = (List.range n).map fun k => n - 1 - k := by
  unfold sliceRange
  have e : (if (-1 : Int) > 0 then (if ((n : Int) - 1) < -1 then (-1 - ((n : Int) - 1) + -1 - 1) / -1 else 0) else (if ((n : Int) - 1) > -1 then (((n : Int) - 1) - -1 - -1 - 1) / (- -1) else 0)).toNat = n := by
    rw [if_neg (by decide)]
    by_cases h : ((n : Int) - 1) > -1
    · rw [if_pos h, show (- -1 : Int) = 1 by decide, Int.ediv_one]
      omega
    · rw [if_neg h]
      omega
  show List.map (fun (k : Nat) => (((n : Int) - 1) + (-1) * (k : Int)).toNat) (List.range (Int.toNat (if (-1 : Int) > 0 then (if ((n : Int) - 1) < -1 then (-1 - ((n : Int) - 1) + -1 - 1) / -1 else 0) else (if ((n : Int) - 1) > -1 then (((n : Int) - 1) - -1 - -1 - 1) / (- -1) else 0)))) = _
  rw [e]
  refine List.map_congr_left fun k hk => ?_
  have := List.mem_range.mp hk
  omega
theorem filterMap_back (z : Array Nat) : (((List.range z.size).map fun k => z.size - 1 - k).filterMap (z[·]?)) = z.toList.reverse := by
  refine List.ext_getElem? fun i => ?_
  have e : (((List.range z.size).map fun k => z.size - 1 - k).filterMap (z[·]?)) = (List.range z.size).map fun k => z.getD (z.size - 1 - k) 0 := by
    rw [List.filterMap_map]
    have : ∀ l : List Nat, (∀ k ∈ l, k < z.size) → l.filterMap ((fun x => z[x]?) ∘ fun k => z.size - 1 - k) = l.map fun k => z.getD (z.size - 1 - k) 0 := by
      intro l
      induction l with
      | nil => intro _; rfl
      | cons a r ih =>
        intro h
        have ha := h a List.mem_cons_self
        have hb : z.size - 1 - a < z.size := by omega
        rw [List.filterMap_cons]
        have e1 : ((fun x => z[x]?) ∘ fun k => z.size - 1 - k) a = some (z.getD (z.size - 1 - a) 0) := by
          show z[z.size - 1 - a]? = _
          rw [Array.getElem?_eq_getElem hb]
          simp [Array.getD, hb]
        rw [e1, List.map_cons, ih fun k hk => h k (List.mem_cons_of_mem _ hk)]
    exact this _ fun k hk => List.mem_range.mp hk
  rw [e, List.getElem?_map]
  by_cases hi : i < z.size
  · rw [List.getElem?_range hi, List.getElem?_reverse (by simpa using hi)]
    have hb : z.size - 1 - i < z.size := by omega
    simp [Array.getD, hb]
  · rw [List.getElem?_eq_none (by simpa using hi), List.getElem?_eq_none (by simpa using hi)]
    rfl
theorem pe_revS {e : Expr} {te : TE} {k : Nat} {p1 p2 p3 pos : Pos} (he : PE X e te) : PE X (.Subscript e (.Slice none none (some (.UnaryOp .USub (.Constant (.int 1) k p1) p2)) p3) pos) (tRevS te) := by
  refine ⟨fun pins s σ H Q I h => ?_⟩
  refine Subscript_ (thn (he.run pins s σ H _ I h) fun v s1 ⟨x, H1, I1, r1, q1⟩ => ?_)
  obtain ⟨z, ex, hz, q⟩ := q1
  subst ex
  obtain ⟨tz, rfl⟩ := r1
  have hst : PO X (some (.UnaryOp .USub (.Constant (.int 1) k p1) p2)) (tPart (tUn (rU fun i => .int (-i)) (tC (.int 1)))) := po_some (pe_un un_neg pe_int)
  refine wpAny_Slice (thn (po_none.run pins s1 σ H1 (fun o H2 => o = none ∧ H2 = H1) I1 ⟨rfl, rfl⟩) fun vl s2 ⟨l, H2, I2, pl, el, e2⟩ => ?_)
  subst el e2
  refine thn (po_none.run pins s2 σ H2 (fun o H3 => o = none ∧ H3 = H2) I2 ⟨rfl, rfl⟩) fun vu s3 ⟨u, H3, I3, pu, eu, e3⟩ => ?_
  subst eu e3
  refine thn (hst.run pins s3 σ H3 (fun o H4 => o = some (-1) ∧ H4 = H3) I3 ⟨1, rfl, -1, rfl, rfl, rfl⟩) fun vs s4 ⟨o, H4, I4, ps, eo, e4⟩ => ?_
  subst eo e4
  have I5 : Inv X pins σ H4 { s4 with heap := s4.heap.push { cls := .type "slice", data := .fields #[vl, vu, vs] } } := I4.kept (t' := s4.toks) fun b ob q => Heap.get?_push_of_some _ q
  obtain ⟨l, rfl, el⟩ := IsPart.raw pl
  obtain ⟨u, rfl, eu⟩ := IsPart.raw pu
  obtain ⟨st, rfl, est⟩ := IsPart.raw ps
  cases l with
  | some _ => cases el
  | none =>
  cases u with
  | some _ => cases eu
  | none =>
  cases st with
  | none => cases est
  | some st =>
  obtain ⟨k1, tk⟩ := st
  have ek : k1 = -1 := Option.some.inj est
  subst ek
  show wpAny (model X.prog X.w) X.A (subscriptTail e (.Slice none none (some (.UnaryOp .USub (.Constant (.int 1) k p1) p2)) p3) (.str z tz) (.ref s4.heap.objs.size)) (EP X pins σ Q) X.xe { s4 with heap := s4.heap.push { cls := .type "slice", data := .fields #[.none, .none, .int (-1) tk] } }
  refine tail_any (ops := [.ref s4.heap.objs.size, .str z tz]) (typeIs_str _ _ _) F.slot_str_getitem.lookup ?_ (by with_unfolding_all rfl)
  refine wpAny_getItem_str_slice (l := none) (u := none) (st := some (-1, tk)) ⟨_, Heap.get?_push_size _ rfl, rfl, rfl⟩ rfl ?_
  have hp : slicePicked z none none (some (-1, tk)) = (List.range z.cps.size).map fun k => z.cps.size - 1 - k := by
    show Builtin.Str.strSliceIndices none none (-1) z.length = _
    unfold Builtin.Str.strSliceIndices
    exact range_back z.length
  have hr : (⟨((slicePicked z none none (some (-1, tk))).filterMap (z.cps[·]?)).toArray⟩ : Str) = revS z := by
    rw [hp, filterMap_back]
    unfold revS
    congr 1
    apply Array.ext'
    simp
  show Made.post (if ((-1 : Int) == 1 && (slicePicked z none none (some (-1, tk))).length == z.length) = true then Made.val (.str z tz) else Made.str ⟨((slicePicked z none none (some (-1, tk))).filterMap (z.cps[·]?)).toArray⟩) (EP X pins σ Q) _
  rw [if_neg (by rw [show ((-1 : Int) == 1) = false by decide, Bool.false_and]; exact Bool.false_ne_true), hr]
  refine ⟨?_, .str _, H4, I5.tok _, ⟨_, rfl⟩, q⟩
  show (revS z).cps.size ≤ sizeLine
  unfold revS
  rw [Array.size_reverse]
  exact hz

section
variable {CX : CXT} {k : Nat} {f : Addr} {fd : FuncData} {ps ks : List Str} {sp : Sp} {E : XK} {x : Str} {p pos : Pos} {kws : List Keyword} {tk : TA} {g : List Value → List Value → List Value} {gV : List V → List V → List V}
def tCallK0 (sp : Sp) (gV : List V → List V → List V) (E : XK) (tk : TA) : TE := fun σ H Q => tk σ H fun zs H2 => sp (gV [] zs) H2 Q E
/-- f(k = v, ..), nothing by place -/
theorem pe_callK0 (F : FnOk X.prog X.w X.K X.mg X.base CX k f fd ps sp) (hr : Room k X.A) (hg : Gl X x) (hm : X.mg x = some (.ref f)) (hk : PySem.W.keepIn X.K (.ref f) = true) (hb : KBinds X.K fd ps ks g gV) (hx : Passes CX X E)
    (hkw : PK X kws tk) (hall : (backToKw pos (keywordEach kws X.env)).all (·.1.isSome) = true := by rfl) (hks : (backToKw pos (keywordEach kws X.env)).filterMap (·.1) = ks := by rfl)
    (hdb : (x == ("__debug__" : Str)) = false := by decide)
    (hpl : ((backTo pos (starEach [] X.env)).any (·.1) || (backToKw pos (keywordEach kws X.env)).any (·.1.isNone)) = false := by rfl) :
    PE X (.Call (.Name x p) [] kws pos) (tCallK0 sp gV E tk) := by
  refine ⟨fun pins s σ H Q I h => ?_⟩
  refine wpAny_Call_Name_kw (ld_glob I hg hm ?_ hdb)
  refine PySem.W.callWith_KW0 (h₀ := X.base) I.ok.mod.kin hk hall (thn (hkw.run pos pins s σ H _ I h) fun ws s2 ⟨zs, H2, I2, rz, q2⟩ => ⟨I2.kIn, ?_⟩) hpl
  rw [hks]
  exact run_fnk (us := []) (vs := []) F hr hb hx I2 .nil rz q2
end
end

/-- all parameters by keyword, in their order -/
def kAll {α : Type} : List α → List α → List α
  | [], zs => zs
  | _ :: _, _ => []
theorem kbinds_all {K : PySem.W.Frag} {fd : FuncData} {ps ks : List Str} (h0 : 0 < ps.length) (h : ∀ (s : Shared) (ws : List Value), K.In s.heap → ws.length = ps.length → BindsTo s fd ⟨[], ks.zip ws⟩ (ps.zip ws)) : KBinds K fd ps ks kAll kAll where
  to := fun s us ws hK hl => by
    cases us with
    | nil => exact h s ws hK hl
    | cons u r =>
      have z : (0 : Nat) = ps.length := hl
      omega
  rel := fun {vs us zs ws} r rz => by
    cases r with
    | nil => exact rz
    | cons _ _ => exact .nil

/-! ### places -/
theorem at0 {α : Type} {x : α} {xs : List α} : atI (x :: xs) 0 = some x := atI_nat (j := 0) rfl
theorem ix_nat {n j : Nat} (h : j < n) : ixN n (j : Int) = some j := by
  unfold ixN
  rw [if_pos (by omega), if_pos (by omega), Int.toNat_natCast]
theorem ix0 {n : Nat} (h : 0 < n) : ixN n 0 = some 0 := ix_nat h

/-! ### walks over a text -/
theorem lc_str {x : Str} {g : TG} {tt : TT} {te : TE} {vs : List Nat} {σ : L2.St} {H1 : Hp} {D : Addr} {Qd : Hp → Prop} (Pv : Nat → Hp → Prop) (h0 : Pv 0 (upd H1 D (.lst [])))
    (hs : ∀ i c H, x.cps.toList[i]? = some c → Pv i H → g (.str ⟨#[c]⟩) (wipe σ vs) H fun σ2 H2 => wipe σ2 vs = wipe σ vs ∧ tt σ2 H2 fun b H3 =>
      if b = true then te σ2 H3 fun y H4 => ∃ acc, H4 D = some (.lst acc) ∧ acc.length < sizeLine ∧ Pv (i + 1) (upd H4 D (.lst (acc ++ [y]))) else Pv (i + 1) H3) (hd : ∀ H, Pv x.cps.size H → Qd H) :
    ∃ W : Nat → Nat → Hp → Prop, (∃ m, W 0 m (upd H1 D (.lst []))) ∧ ∀ i m H, W i m H →
      ((Its x).stop i H ∧ Qd H) ∨ ((Its x).go i H ∧ ∃ Nx : Hp → Prop, (∀ H', Nx H' → ∃ m', m' < m ∧ W (i + 1) m' H') ∧ ∀ y H', (Its x).yld i H y H' → g y (wipe σ vs) H' fun σ2 H2 => wipe σ2 vs = wipe σ vs ∧ tt σ2 H2 fun b H3 =>
        if b = true then te σ2 H3 fun y H4 => ∃ acc, H4 D = some (.lst acc) ∧ acc.length < sizeLine ∧ Nx (upd H4 D (.lst (acc ++ [y]))) else Nx H3) := by
  refine ⟨fun i m H => m = x.cps.size - i ∧ i ≤ x.cps.size ∧ Pv i H, ⟨_, rfl, Nat.zero_le _, h0⟩, ?_⟩
  rintro i m H ⟨rfl, hi, p⟩
  by_cases hlt : i < x.cps.size
  · refine .inr ⟨hlt, Pv (i + 1), fun H' p' => ⟨x.cps.size - (i + 1), by omega, rfl, hlt, p'⟩, fun y H' q => ?_⟩
    obtain ⟨e, c, hc, ey⟩ := q
    subst e
    subst ey
    exact hs i c _ (by rw [Array.getElem?_toList]; exact hc) p
  · have e : i = x.cps.size := by omega
    subst e
    exact .inl ⟨Nat.le_refl _, hd H p⟩

/-! ### lists of ints, of texts as data -/
theorem dp_ints {K : PySem.W.Frag} {H : Hp} : ∀ ns : List Int, DpAll K H (ns.map V.int) (ns.map PyData.int)
  | [] => .nil
  | n :: r => .cons (.int n) (dp_ints r)
theorem dp_strs {K : PySem.W.Frag} {H : Hp} : ∀ ns : List Str, DpAll K H (ns.map V.str) (ns.map PyData.str)
  | [] => .nil
  | n :: r => .cons (.str n) (dp_strs r)
theorem shaped_ints (ns : List Int) : SeqAt.shaped (.list (ns.map PyData.int)) = true := PySem.W.ke_shaped_ints ns
theorem eqv_nil : PyData.eqv (.list []) (.list []) = true := by simp [PyData.eqv, PyData.eqvAll]
theorem eqv_cons {a : PyData} {r : List PyData} : PyData.eqv (.list (a :: r)) (.list []) = false := by simp [PyData.eqv, PyData.eqvAll]
theorem same_upd {H : Hp} {p : Addr} {o : HO} (h : H p = none) : Same H (upd H p o) := fun b x e => by
  rw [upd_ne (ne_of_none e h)]
  exact e
/-- what G doesn't know may change -/
theorem same_mut {G H : Hp} {p : Addr} {o : HO} (e : Same G H) (h : G p = none) : Same G (upd H p o) := fun b x q => by
  rw [upd_ne (ne_of_none q h)]
  exact e b x q
end My

/-! My own rules about instances of own classes: texts of them, making them by names and in a try, operators; errors with a dict in an except suite. -/
namespace My
open PySem PySem.Spec PyProof.Rows L2

section
variable {X : Cx}
/-! ### floor division by any divisor that is not 0 -/
def CDivZ (_ j : Int) : Prop := j ≠ 0 ∧ j.natAbs.log2 < 9000
theorem op_fdivZ : OpR X (binaryOp .FloorDiv) (rI CDivZ fun i j => .int (i.fdiv j)) := opI fun _ _ _ _ _ _ _ hc q => floordiv_int hc.1 q (.inl (PyProof.noPylong_of_log2 hc.2))
theorem cdivZ {i j : Int} (h : j ≠ 0) (hb : j.natAbs < 2 ^ 8000) : CDivZ i j := ⟨h, Nat.lt_of_lt_of_le (PySem.Flt.log2_lt_of (by decide) hb) (by decide)⟩

/-! ### str(o), o of an own class with __str__ -/
def rStrO (C : Addr) (sp : Sp) : List V → Hp → VK → Prop := fun xs H Q => ∃ a dx fs, xs = [.ref a] ∧ H a = some (.ins C dx fs) ∧ sp [.ref a] H (fun v H' => ∃ z, v = .str z ∧ Q (.str z) H') E0
theorem call_strO {CX : CXT} {k : Nat} {C f : Addr} {fd : FuncData} {ps : List Str} {sp : Sp} (hs : PySem.W.findIn X.K (.ref C) "__str__" = some (some (.ref f))) (hf : PySem.W.isFn X.K (.ref f) = true)
    (F : FnOk X.prog X.w X.K X.mg X.base CX k f fd ps sp) (hr : Room (k + 2) X.A) (hb : Binds X.K fd ps []) (hx : Passes CX X.nox E0) : CallR X (.type "str") (rStrO C sp) := by
  intro pins s σ H xs us Q I r h
  obtain ⟨a, dx, fs, rfl, ea, q⟩ := h
  obtain ⟨u, rfl, ru⟩ := vals1 r
  obtain rfl : u = Value.ref a := ru
  obtain ⟨mA, O, _, _, _, _⟩ := ins_get I.hok ea
  obtain ⟨od, J, _⟩ := O.look
  have hl : ([Value.ref a] ++ []).length = ps.length := by rw [← F.len _ _ _ _ q]; rfl
  refine PySem.W.kso_call hr.in1.in1.units0 I.kIn J hs hf (wpAny_call ?_)
  refine codeAny_mono (F.run X.A.in1.in1 X.stack s H ⟨[.ref a], []⟩ [.ref a] [.ref a] _ E0 hr.in1.in1 I.env0.in1.in1 (hb _ [.ref a] I.kIn hl) (.cons rfl .nil) q) fun r s' hq => ?_
  cases r with
  | error er => exact False.elim (hx pins σ H s er s' (I.wish _) hq)
  | ok fl =>
    cases fl with
    | ret u =>
      obtain ⟨v, H', I3, rv, z, ez, q3⟩ := I.after hq
      subst ez
      obtain ⟨t, rfl⟩ := rv
      exact ⟨.str z, H', I3, ⟨t, rfl⟩, q3⟩
    | next => exact False.elim hq
    | brk => exact False.elim hq
    | cont => exact False.elim hq

/-! ### C(k = v, ..), nothing by place -/
section
variable {CX : CXT} {k : Nat} {f C : Addr} {fd : FuncData} {ps ks : List Str} {sp : Sp} {E : XK} {x : Str} {p pos : Pos} {e : Expr} {es : List Expr} {kws : List Keyword} {t tk : TA} {g : List Value → List Value → List Value} {gV : List V → List V → List V}
theorem pe_makeK0 (M : Mk X.K C f) (F : FnOk X.prog X.w X.K X.mg X.base CX k f fd ps sp) (hr : Room (k + 1) X.A) (hg : Gl X x) (hm : X.mg x = some (.ref C)) (hb : KBn X.K fd ps (0 + 1) ks g gV) (hx : Passes CX X E)
    (hkw : PK X kws tk) (hall : (backToKw pos (keywordEach kws X.env)).all (·.1.isSome) = true := by rfl) (hks : (backToKw pos (keywordEach kws X.env)).filterMap (·.1) = ks := by rfl)
    (hdb : (x == ("__debug__" : Str)) = false := by decide)
    (hpl : ((backTo pos (starEach [] X.env)).any (·.1) || (backToKw pos (keywordEach kws X.env)).any (·.1.isNone)) = false := by rfl) :
    PE X (.Call (.Name x p) [] kws pos) (tMakeN C 0 ks.length sp gV E tNil tk) := by
  refine ⟨fun pins s σ H Q I h => ?_⟩
  refine wpAny_Call_Name_kw (ld_glob I hg hm ?_ hdb)
  refine PySem.W.callWith_KW0 (h₀ := X.base) I.ok.mod.kin M.kp hall (thn (hkw.run pos pins s σ H _ I h) fun ws s2 ⟨zs, H2, I2, rz, l1, l2, q2⟩ => ⟨I2.kIn, ?_⟩) hpl
  rw [hks]
  exact run_makeN M F hr hb hx I2 .nil rz rfl l2 q2

/-! ### cls(e, ..), the class under a name of the frame -/
def tMakeL (C : Addr) (i : Nat) (sp : Sp) (dvs : List V) (E : XK) (t : TA) : TE := fun σ H Q => σ[i]? = some (some (.ref C)) ∧ tMake C sp dvs E t σ H Q
theorem pe_makeL {i : Nat} {dvs : List V} {ds : List Value} (M : Mk X.K C f) (F : FnOk X.prog X.w X.K X.mg X.base CX k f fd ps sp) (hr : Room (k + 1) X.A) (hN : X.N[i]? = some x) (hv : Vis X.env.scope x) (hb : Binds X.K fd ps ds) (hd : Vals dvs ds) (hx : Passes CX X E)
    (ha : PA X (e :: es) t) (hd1 : (x == ("__debug__" : Str)) = false := by decide) (hcd : (x == ("__classdict__" : Str)) = false := by decide)
    (he : starEach (e :: es) X.env = (false, eval e X.env) :: starEach es X.env := by rfl) (hpl : (backTo pos (starEach es X.env)).any (·.1) = false := by rfl) :
    PE X (.Call (.Name x p) (e :: es) [] pos) (tMakeL C i sp dvs E t) := by
  refine ⟨fun pins s σ H Q I h => ?_⟩
  obtain ⟨hs, h⟩ := h
  refine wpAny_Call_Name_kw (thn ((pe_var (pos := p) hN hv hd1 hcd).run pins s σ H (fun v H1 => v = .ref C ∧ H1 = H) I ⟨.ref C, hs, rfl, rfl⟩) fun u s1 ⟨v, H1, I1, r1, q1⟩ => ?_)
  obtain ⟨rfl, rfl⟩ := q1
  cases r1
  refine PySem.W.callWith_K (h₀ := X.base) I.ok.mod.kin M.kp (thn (ha.run pos pins s1 σ _ _ I1 h) fun us s2 ⟨vs, H2, I2, r, q⟩ => ⟨I2.kIn, ?_⟩) he hpl
  exact run_make M F hr hb hd hx I2 r q

/-! ### C(e, ..) where what is raised is wished for at the caller's slots -/
def tMakeS (C : Addr) (sp : Sp) (dvs : List V) (E : L2.St → XK) (t : TA) : TE := fun σ H Q => tMake C sp dvs (E σ) t σ H Q
theorem run_makeS {pins : List (Addr × Obj)} {σ : L2.St} {H : Hp} {s : Shared} {Q : VK} {us : List Value} {vs : List V} {dvs : List V} {ds : List Value} (M : Mk X.K C f) (F : FnOk X.prog X.w X.K X.mg X.base CX k f fd ps sp) (hr : Room (k + 1) X.A) (hb : Binds X.K fd ps ds) (hd : Vals dvs ds)
    (hx : PassesAt CX X σ E) (I : Inv X pins σ H s) (r : Vals vs us)
    (h : ∀ x dx, H x = none → H dx = none → dx ≠ x → sp (.ref x :: (vs ++ dvs)) (upd (upd H dx (.own x)) x (.ins C dx [])) (fun v H2 => v = .non ∧ Q (.ref x) H2) E) :
    wpAny (model X.prog X.w) X.A (call (.ref C) us) (EP X pins σ Q) X.xe s := by
  have hq := h (s.heap.objs.size + 1) s.heap.objs.size (I.hok.fresh (Nat.le_succ _)) (I.hok.fresh (Nat.le_refl _)) (Nat.ne_of_lt (Nat.lt_succ_self _))
  have I2 := Inv.made (C := C) I
  have r2 : Vals (V.ref (s.heap.objs.size + 1) :: (vs ++ dvs)) (Value.ref (s.heap.objs.size + 1) :: (us ++ ds)) := .cons rfl (r.append hd)
  have hl : (Value.ref (s.heap.objs.size + 1) :: us ++ ds).length = ps.length := by
    have e := r2.length
    rw [F.len _ _ _ _ hq] at e
    exact e.symm
  refine wpAny_call (make_map (f := f) I.kIn M.makes M.init (beq_iff_eq.mp M.fn) (codeAny_mono (F.run _ X.stack _ _ ⟨Value.ref (s.heap.objs.size + 1) :: us, []⟩ (Value.ref (s.heap.objs.size + 1) :: (us ++ ds)) _ _ E (hr.make C us [])
    (I2.env0.make C us []) (hb _ (Value.ref (s.heap.objs.size + 1) :: us) I2.kIn hl) r2 hq) fun r s' hq' => ?_))
  cases r with
  | error e => exact hx pins _ _ e s' I2 hq'
  | ok fl =>
    cases fl with
    | ret u =>
      obtain ⟨v, H', I3, rv, ev, q3⟩ := I2.after hq'
      subst ev
      exact ⟨rv, ⟨V.ref (s.heap.objs.size + 1), H', I3, rfl, q3⟩⟩
    | next => exact False.elim hq'
    | brk => exact False.elim hq'
    | cont => exact False.elim hq'
theorem pe_makeS {E : L2.St → XK} {dvs : List V} {ds : List Value} (M : Mk X.K C f) (F : FnOk X.prog X.w X.K X.mg X.base CX k f fd ps sp) (hr : Room (k + 1) X.A) (hg : Gl X x) (hm : X.mg x = some (.ref C)) (hb : Binds X.K fd ps ds) (hd : Vals dvs ds) (hx : ∀ σ, PassesAt CX X σ (E σ))
    (ha : PA X (e :: es) t) (hdb : (x == ("__debug__" : Str)) = false := by decide) (he : starEach (e :: es) X.env = (false, eval e X.env) :: starEach es X.env := by rfl) (hpl : (backTo pos (starEach es X.env)).any (·.1) = false := by rfl) :
    PE X (.Call (.Name x p) (e :: es) [] pos) (tMakeS C sp dvs E t) := by
  refine ⟨fun pins s σ H Q I h => ?_⟩
  refine wpAny_Call_Name_kw (ld_glob I hg hm ?_ hdb)
  refine PySem.W.callWith_K (h₀ := X.base) I.ok.mod.kin M.kp (thn (ha.run pos pins s σ H _ I h) fun us s1 ⟨vs, H1, I1, r, q⟩ => ⟨I1.kIn, ?_⟩) he hpl
  exact run_makeS M F hr hb hd (hx σ) I1 r q
end

/-! ### C.m(k = v, ..), m a classmethod -/
section
variable {CX : CXT} {k : Nat} {C q0 g : Addr} {mc : Value} {fd : FuncData} {ps ks : List Str} {sp : Sp} {E : XK} {o : Expr} {m : Str} {pos apos : Pos} {kws : List Keyword} {ta : TE} {tk : TA} {pl : Sem Bool}
def tCMethK (C : Addr) (n : Nat) (sp : Sp) (E : XK) (ta : TE) (tk : TA) : TE := fun σ H Q => ta σ H fun x H1 => x = .ref C ∧ tk σ H1 fun zs H2 => zs.length = n ∧ sp (.ref C :: zs) H2 Q E
theorem pe_cmethK0 (he : PE X o ta) (r : ClX.CRead X.K C mc) (c : ClX.CMet X.K C mc m q0 g) (F : FnOk X.prog X.w X.K X.mg X.base CX k g fd ps sp) (hr : Room k X.A) (hx : Passes CX X E) (hkw : PK X kws tk)
    (hb : ∀ (s : Shared) (ws : List Value), X.K.In s.heap → ws.length = ks.length → BindsTo s fd ⟨Value.ref C :: [], ks.zip ws⟩ (ps.zip (Value.ref C :: ws)))
    (hall : (backToKw pos (keywordEach kws X.env)).all (·.1.isSome) = true := by rfl) (hks : (backToKw pos (keywordEach kws X.env)).filterMap (·.1) = ks := by rfl)
    (hpl : ((backTo pos (starEach [] X.env)).any (·.1) || (backToKw pos (keywordEach kws X.env)).any (·.1.isNone)) = false := by rfl)
    (ht : eval (.Call (.Attribute o m apos) [] kws pos) X.env = (do
      let ov ← eval o X.env
      standAt apos.atName
      let (f, first) ← holding [ov] (getMethod ov m pl)
      callWith pos f first (backTo pos (starEach [] X.env)) (backToKw pos (keywordEach kws X.env))) := by rfl) :
    PE X (.Call (.Attribute o m apos) [] kws pos) (tCMethK C ks.length sp E ta tk) := by
  refine ⟨fun pins s σ H Q I h => ?_⟩
  refine PySem.W.methodCall_KW (pl := pl) (thn (he.run pins s σ H _ I h) fun u s1 ⟨x, H1, I1, rx, ex, h2⟩ => ?_) ht
  subst ex
  obtain rfl : u = Value.ref C := rx
  refine ClX.getmethcm_ok I1 r c fun s2 I2 => ?_
  refine PySem.W.callWith_of hpl (PySem.W.keeps_M (K := X.K) (self := Value.ref C) c.fi) (evalArgs_kw2_nil hall (thn (hkw.run pos _ s2 σ H1 _ I2 h2) fun ws s3 ⟨zs, H2, I3, rz, hl, h3⟩ => ⟨⟨ClX.pin_at I3, I3.kIn⟩, ?_⟩))
  rw [hks]
  suffices z : wpAny (model X.prog X.w) X.A (call (.ref s1.heap.objs.size) [] (ks.zip ws)) (EP X ((s1.heap.objs.size, PySem.W.methodObj (.ref g) (.ref C)) :: pins) σ Q) X.xe s3 from thn z fun _ _ y => ClX.unpinE y
  refine wpAny_call (PySem.W.method_call (ClX.pin_at I3) ?_)
  have r2 : Vals (V.ref C :: zs) (Value.ref C :: ws) := .cons rfl rz
  refine codeAny_mono (F.run X.A X.stack s3 H2 ⟨Value.ref C :: [], ks.zip ws⟩ (Value.ref C :: ws) (V.ref C :: zs) Q E hr I3.env0 (hb s3 ws I3.kIn (rz.length.symm.trans hl)) r2 h3) fun r s' hq => ?_
  cases r with
  | error er => exact hx _ σ H2 s3 er s' I3 hq
  | ok fl =>
    cases fl with
    | ret u => exact I3.after hq
    | next => exact False.elim hq
    | brk => exact False.elim hq
    | cont => exact False.elim hq
end

/-! ### an error with a dict of its own, asked for its class in an except suite -/
theorem class_of_err {prog : Program} {w : World} {A : Around} {E : Value → Shared → Prop} {s : Shared} {K : PySem.W.Frag} {x D : Addr} {ox od : Obj} {Q : Option Value → Shared → Prop} (C : ExcC K D) (hK : K.In s.heap) (J : PySem.W.InstAt s.heap x ox D (some od))
    (h : Q (some (.ref D)) { s with toks := s.toks + 1 }) : wpAny (model prog w) A (getAttr? (.ref x) "__class__") Q E s := by
  have hcd : (PySem.W.clsIn K D).isSome = true := by
    obtain ⟨cd, hc, _⟩ := PySem.W.any_some C.hd
    rw [hc]
    rfl
  have hf : PySem.W.findObj K D (some od) "__class__" = some (.bind (.builtin "getset_descriptor.__get__") (.builtin "object.__class__")) := PySem.W.findObj_data hcd C.ha C.hn C.ht
  obtain ⟨hp, gg, dr, tt, os⟩ := s
  have T0 := J.type (M := model prog w)
  have T1 := PySem.W.looks_findIn (M := model prog w) hK C.hg
  have T2 := PySem.W.looks_findIn (M := model prog w) hK C.hk
  have T3 := PySem.W.looks_find (M := model prog w) hK J hf
  have below : PySem.W.Looks (model prog w) hp (isInstance (.ref x) (.type "BaseException")) true := T0.andThen (PySem.W.looks_subIn hK C.hs)
  have b0 : (false && onTheHeap (Value.builtin "BaseException.__getattribute__")) = false := rfl
  have b2 : (Value.builtin "BaseException.__getattribute__" == Value.builtin "object.__getattribute__") = false := by decide +kernel
  have b1 : (onTheHeap (Value.ref D) && Value.builtin "BaseException.__getattribute__" == Value.builtin "object.__getattribute__") = false := by rw [b2]; rfl
  unfold getAttr? getAttrBy? getAttrBy
  refine wpAny_bind (wpAny_mkText (wpAny_bind (wpAny_attempt (wpAny_holding (wpAny_bind (T0.at (wpAny_bind (T1.at ?_))))))))
  show wpAny _ _ (if (onTheHeap (Value.ref D) && Value.builtin "BaseException.__getattribute__" == Value.builtin "object.__getattribute__") = true then _ else _) _ _ _
  rw [b1, if_neg Bool.false_ne_true]
  unfold getAttrByItsOwn hookBefore
  refine wpAny_bind ?_
  rw [if_pos (show onTheHeap (Value.ref D) = true from rfl)]
  refine T2.at ?_
  refine wpAny_bind (wpAny_attempt (wpAny_holding ?_))
  unfold callGetattribute
  rw [b0, if_neg Bool.false_ne_true]
  unfold boundAndCalled
  rw [PySem.F.excAttr_ValueError.ga.bind (.ref x)]
  refine wpAny_bind (wpAny_pure ?_)
  show wpAny _ _ (call (.builtin "BaseException.__getattribute__") [.ref x, .str "__class__" tt]) _ _ _
  refine wpAny_call (codeAny_call_builtin PySem.F.excAttr_ValueError.ga.plain PySem.F.entry_bexc_ga ?_)
  refine @PySem.W.check_slot (model prog w) _ _ ⟨hp, gg, dr, tt + 1, os⟩ "BaseException.__getattribute__" "BaseException" "__getattribute__" (.ref x) [.str "__class__" tt] [] _ (by decide +kernel) (by decide +kernel) below (PySem.F.args_bexc_ga (.ref x) (.str "__class__" tt)) ?_
  unfold Builtin.«object.__getattribute__»
  refine wpAny_bind (wpAny_of_eq (a := ((Value.ref x : Value), [Value.str "__class__" tt])) (by first | rfl | (simp only [slotArgs]; rfl)) ?_)
  refine wpAny_bind (wpAny_pure (wpAny_bind (T0.at (wpAny_bind (T3.at ?_)))))
  show wpAny _ _ (holding [Value.builtin "object.__class__"] (call (.builtin "getset_descriptor.__get__") [.builtin "object.__class__", .ref x, .ref D]) >>= ret) _ _ _
  refine wpAny_bind (wpAny_holding (wpAny_call (PySem.W.class_get (s := ⟨hp, gg, dr, tt + 1, os⟩) (ox := ox) (od := some od) hK J C.hm ?_)))
  refine wpAny_pure ?_
  show wpAny _ _ (handedOut (.ref D)) _ _ _
  rw [PySem.W.handedOut_of (v := .ref D) rfl]
  first
    | exact wpAny_pure (wpAny_pure h)
    | exact wpAny_pure h
    | exact wpAny_pure (wpAny_bind (wpAny_pure (wpAny_pure h)))
theorem kit_err {K : PySem.W.Frag} {x D : Addr} {ox od : Obj} (C : ExcC K D) : PySem.W.KitX K (.ref x) (.ref D) (fun h => PySem.W.InstAt h x ox D (some od)) where
  ty := fun _ _ _ J => J.type
  it := fun _ _ hK _ => by
    obtain ⟨cdD, hcD, _⟩ := PySem.W.any_some C.hd
    unfold PySem.W.clsIn at hcD
    split at hcD
    · rename_i c' d' cd' sl' ho
      intro A' Q' E' s' kk q
      unfold isType loadHead
      exact wpAny_bind (wpAny_loadPart (kk _ _ (hK _ _ ho)) (wpAny_pure q))
    · cases hcD
  ne := fun h tp dd its n sl hK htp => by
    obtain ⟨cdD, hcD, _⟩ := PySem.W.any_some C.hd
    refine Bool.eq_false_iff.mpr fun q => ?_
    have e : D = tp := Value.ref.inj (beq_iff_eq.mp q)
    subst e
    unfold PySem.W.clsIn at hcD
    split at hcD
    · rename_i c' d' cd' sl' ho
      have z := (hK _ _ ho).symm.trans htp
      cases z
    · cases hcD
  ca := fun hK J q => class_of_err C hK J q
def rIsEd (K : PySem.W.Frag) (a : Addr) (cls : Value) (d : Option Addr) (D : Addr) : List V → Hp → VK → Prop := fun xs H Q => ∃ (c : V) (cv : Value) (b : Bool) (dd : Addr) (fs : List (Str × V)), xs = [.ref a, c] ∧ cls = .ref D ∧ d = some dd ∧ ClsV c cv ∧ PySem.W.kitOne K (.ref D) cv = some b ∧ H dd = some (.xd fs) ∧ Q (.bl b) H
theorem call_isEd {a D : Addr} {cls : Value} {d : Option Addr} {oe : Obj} {pn : List (Addr × Obj)} (C : ExcC X.K D) (hz : Zc cls d oe) (hf : ∃ vs, oe.data = .fields vs) : CallR (X.suite a ((a, oe) :: pn)) (.builtin "isinstance") (rIsEd X.K a cls d D) := by
  intro pins s σ H xs us Q I r h
  obtain ⟨c, cv, b, dd, fs, rfl, e1, e2, hcv, e, hd, q⟩ := h
  subst e1
  subst e2
  obtain ⟨u, w', rfl, ru, rw'⟩ := vals2 r
  obtain rfl : u = Value.ref a := ru
  obtain rfl := hcv.eq rw'
  obtain ⟨hget, _⟩ := I.pin (a, oe) (List.mem_append.mpr (.inl List.mem_cons_self))
  obtain ⟨vs, hv⟩ := hf
  have hx : ObjOk X.prog X.w H s.heap dd (.xd fs) := I.hok dd _ hd
  obtain ⟨mA, hns, hrel⟩ := hx
  obtain ⟨od, ho, hl⟩ := lookIn_ns hns
  have J : PySem.W.InstAt s.heap a oe D (some od) := ⟨hget, hz.1, by unfold PySem.W.notCls; rw [hv] <;> rfl, by rw [hz.2]; exact ho⟩
  exact PySem.W.kia_one (kit_err C) I.kIn J e (fun z => nomatch z) fun tk => ⟨.bl b, H, I.kept (t' := tk) fun _ _ z => z, rfl, q⟩
end

/-! ### isinstance by the written part; keywords in another order -/
theorem kit_self {K : PySem.W.Frag} {C : Addr} : PySem.W.kitOne K (.ref C) (.ref C) = some true := by
  unfold PySem.W.kitOne
  rw [if_pos (by simp)]
theorem kit_sub {K : PySem.W.Frag} {t : Value} {C : Addr} {b : Bool} (ic : PySem.W.isClsIn K C = true) (ty : PySem.W.typeIn K (.ref C) = some (.type "type")) (su : PySem.W.subIn K t (.ref C) = some b) (ne : t ≠ .ref C) : PySem.W.kitOne K t (.ref C) = some b := by
  unfold PySem.W.kitOne
  rw [if_neg (by simpa using ne)]
  show (if ((PySem.W.clsIn K C).isSome && PySem.W.typeIn K (.ref C) == some (.type "type")) = true then PySem.W.subIn K t (.ref C) else none) = some b
  rw [ty, show (PySem.W.clsIn K C).isSome = true from ic, if_pos (by simp)]
  exact su
theorem kit_not {K : PySem.W.Frag} {t : Value} {C : Addr} (ic : PySem.W.isClsIn K C = true) (ty : PySem.W.typeIn K (.ref C) = some (.type "type")) (su : PySem.W.subIn K t (.ref C) = some false) (ne : t ≠ .ref C) : PySem.W.kitOne K t (.ref C) = some false := kit_sub ic ty su ne
def permL {α : Type} (is : List Nat) (ws : List α) : List α := is.filterMap fun i => ws[i]?
theorem permL_rel (is : List Nat) {zs : List V} {ws : List Value} (r : Vals zs ws) : Vals (permL is zs) (permL is ws) := by
  induction is with
  | nil => exact .nil
  | cons i is ih =>
    unfold permL at ih ⊢
    rw [List.filterMap_cons, List.filterMap_cons]
    cases e : zs[i]? with
    | none =>
      rw [r.none_of e]
      exact ih
    | some x =>
      obtain ⟨u, hu, ru⟩ := r.get e
      rw [hu]
      exact .cons ru ih
end My

/-! My own rules about operators of own classes: + - * with an instance or an int on either side, in place, unary minus, == with either answer, != of two lists with the same items. -/
namespace My
open PySem PySem.Spec PyProof.Rows L2

section
variable {X : Cx} {CX : CXT} {k : Nat} {C f : Addr} {fd : FuncData} {ps : List Str} {sp : Sp} {E : XK}
theorem run_own {pins : List (Addr × Obj)} {s : Shared} {σ : L2.St} {H : Hp} {Q : VK} {us : List Value} {vs : List V} (F : FnOk X.prog X.w X.K X.mg X.base CX k f fd ps sp) (hr : Room k X.A) (hb : Binds X.K fd ps []) (hx : Passes CX X E)
    (I : Inv X pins σ H s) (r : Vals vs us) (h : sp vs H Q E) : wpAny (model X.prog X.w) X.A (call (.ref f) us) (EP X pins σ Q) X.xe s := by
  have hl : (us ++ []).length = ps.length := by
    rw [List.append_nil, ← F.len _ _ _ _ h]
    exact r.length.symm
  refine wpAny_call (codeAny_mono (F.run X.A X.stack s H ⟨us, []⟩ us vs _ E hr I.env0 (by
    have := hb s us I.kIn hl
    rw [List.append_nil] at this
    exact this) r h) fun r s' hq => ?_)
  cases r with
  | error e => exact hx pins σ H s e s' I hq
  | ok fl =>
    cases fl with
    | ret w => exact I.after hq
    | next => exact False.elim hq
    | brk => exact False.elim hq
    | cont => exact False.elim hq
/-- what is handed back is no NotImplemented -/
theorem back_of {pins : List (Addr × Obj)} {σ : L2.St} {Q : VK} {v : Value} {s : Shared} (h : EP X pins σ Q v s) : PySem.W.CmpBack (EP X pins σ Q) v s := by
  obtain ⟨x, H, I, r, q⟩ := id h
  cases x with
  | non => obtain rfl : v = Value.none := r; exact h
  | bl b => obtain rfl : v = Value.bool b := r; exact h
  | int i => obtain ⟨t, rfl⟩ := r; exact h
  | str i => obtain ⟨t, rfl⟩ := r; exact h
  | byt i => obtain ⟨t, rfl⟩ := r; exact h
  | flt i => obtain ⟨t, rfl⟩ := r; exact h
  | ref a => obtain rfl : v = Value.ref a := r; exact h
  | ty n => obtain rfl : v = Value.type n := r; exact h

/-! ### the unary minus -/
def rNegO (C : Addr) (sp : Sp) (E : XK) : V → Hp → VK → Prop := fun x H Q => ∃ a dx fs, x = .ref a ∧ H a = some (.ins C dx fs) ∧ sp [.ref a] H Q E
theorem un_negO (hs : PySem.W.findIn X.K (.ref C) "__neg__" = some (some (.ref f))) (hf : PySem.W.isFn X.K (.ref f) = true) (F : FnOk X.prog X.w X.K X.mg X.base CX k f fd ps sp) (hr : Room k X.A) (hb : Binds X.K fd ps []) (hx : Passes CX X E) :
    UnR X (unaryOp .USub) (rNegO C sp E) := by
  intro pins s σ H x v Q I rx h
  obtain ⟨a, dx, fs, rfl, ea, q⟩ := h
  obtain rfl : v = Value.ref a := rx
  obtain ⟨mA, J, _⟩ := ins_get I.hok ea
  obtain ⟨od, J, _⟩ := J.look
  obtain ⟨m, hF⟩ := I.fr
  exact PySem.W.ksp_neg hF I.ok.mod.kin J hs hf (run_own (vs := [V.ref a]) F hr hb hx I (.cons rfl .nil) q)

/-! ### the operators with two sides -/
/-- what of the text an operator must have -/
structure OpO (K : PySem.W.Frag) (C : Addr) (nm : String) (f g : Addr) : Prop where
  sf : PySem.W.selfFirst K C = true
  ls : PySem.W.findIn K (.ref C) (PySem.dunder nm) = some (some (.ref f))
  lf : PySem.W.isFn K (.ref f) = true
  rs : PySem.W.findIn K (.ref C) (dunderR nm) = some (some (.ref g))
  rf : PySem.W.isFn K (.ref g) = true
  i1 : ∃ fo, PySem.W.findIn K (.type "int") (PySem.dunder nm) = some fo
  i2 : ∃ ro, PySem.W.findIn K (.type "int") (dunderR nm) = some ro
  su : PySem.W.subIn K (.type "int") (.ref C) = some false
  us : PySem.W.subIn K (.ref C) (.type "int") = some false
/-- int declines -/
structure Dec (nm : String) (id : String) (B : Builtin) : Prop where
  slot : Slot "int" (PySem.dunder nm) id
  entry : entryFor table id = some B
  args : ∀ a b, argsOk id ⟨[a, b], []⟩
  fills : fillsNumberSlot (.type "int") nm = pure true
  body : ∀ (a : Int) (t : Tok) (l C dx : Addr), Meets (B ⟨[.int a t, .ref l], []⟩) (fun _ R s => s.heap.get? l = some (PySem.W.instObj C dx) ∧ R (.ok (.ret Value.notImplemented)) s)
theorem dec_add : Dec "add" "int.__add__" Builtin.«int.__add__» := ⟨F.slot_int_add, F.entry_int_add, F.args_int_add_2, F.fills_int_add, fun a t l C dx => .of_wp fun prog w A R s h => by obtain ⟨hp, g, d, tk, os⟩ := s; obtain ⟨hl, h⟩ := h; wp_walk; exact ⟨_, rfl, h⟩⟩
theorem dec_sub : Dec "sub" "int.__sub__" Builtin.«int.__sub__» := ⟨F.slot_int_sub, F.entry_int_sub, F.args_int_sub_2, F.fills_int_sub, fun a t l C dx => .of_wp fun prog w A R s h => by obtain ⟨hp, g, d, tk, os⟩ := s; obtain ⟨hl, h⟩ := h; wp_walk; exact ⟨_, rfl, h⟩⟩
theorem dec_mul : Dec "mul" "int.__mul__" Builtin.«int.__mul__» := ⟨F.slot_int_mul, F.entry_int_mul, F.args_int_mul_2, F.fills_int_mul, fun a t l C dx => .of_wp fun prog w A R s h => by obtain ⟨hp, g, d, tk, os⟩ := s; obtain ⟨hl, h⟩ := h; wp_walk; exact ⟨_, rfl, h⟩⟩

section
variable {prog : Program} {w : World} {A : Around} {Ex : Value → Shared → Prop} {s : Shared} {K : PySem.W.Frag} {C f g : Addr} {nm : String}
open PySem.W
theorem b1_own {x y : Addr} {odx ody : Option Obj} {ox oy : Obj} {Q : Value → Shared → Prop} (X : K.In s.heap) (O : OpO K C nm f g) (I : InstAt s.heap x ox C odx) (J : InstAt s.heap y oy C ody)
    (h : wpAny (model prog w) A (call (.ref f) [.ref x, .ref y]) (PySem.W.CmpBack Q) Ex s) : wpAny (model prog w) A (binaryOp1 nm (.ref x) (.ref y)) (fun r s' => ∃ v, r = some v ∧ Q v s') Ex s := by
  obtain ⟨cd, rest, hcd, hm⟩ := ksp_first O.sf
  unfold binaryOp1
  refine wpAny_bind (I.type.here (wpAny_bind (J.type.here (wpAny_bind ((fills_K X hcd hm O.ls).here ?_)))))
  simp only [beq_self_eq_true, if_true]
  refine wpAny_bind (wpAny_pure ?_)
  simp only [Bool.and_false, Bool.false_eq_true, if_false, Bool.false_and]
  refine wpAny_bind (wpAny_pure ?_)
  simp only [Bool.false_eq_true, if_false]
  refine wpAny_bind (m := tryMethod (.ref x) _ (.ref y)) (wpAny_mono (ksp_try X I O.ls O.lf h) (fun r s' hr => ?_) fun _ _ e => e)
  obtain ⟨v, rfl, hq⟩ := hr
  exact wpAny_pure ⟨v, rfl, hq⟩
theorem b1_int {x : Addr} {i : Int} {t : Tok} {odx : Option Obj} {ox : Obj} {Q : Value → Shared → Prop} (X : K.In s.heap) (O : OpO K C nm f g) (I : InstAt s.heap x ox C odx)
    (h : wpAny (model prog w) A (call (.ref f) [.ref x, .int i t]) (PySem.W.CmpBack Q) Ex s) : wpAny (model prog w) A (binaryOp1 nm (.ref x) (.int i t)) (fun r s' => ∃ v, r = some v ∧ Q v s') Ex s := by
  obtain ⟨cd, rest, hcd, hm⟩ := ksp_first O.sf
  obtain ⟨fo, h1⟩ := O.i1
  obtain ⟨ro, h2⟩ := O.i2
  have one := ksp_try X I O.ls O.lf h
  obtain ⟨hh, gg, d, tt, os⟩ := s
  have L1 : Looks (model prog w) hh (typeOf (.ref x)) (.ref C) := I.type
  have L2 : Looks (model prog w) hh (typeOf (.int i t)) (.type "int") := Looks.of_pure rfl
  have L3 : Looks (model prog w) hh (fillsNumberSlot (.ref C) nm) true := fills_K X hcd hm O.ls
  have L4 : Looks (model prog w) hh (fillsNumberSlot (.type "int") nm) ((fo.isSome && !isSeqSlot fo) || (ro.isSome && !isSeqSlot ro)) := ksp_fillsT X h1 h2
  have L5 : Looks (model prog w) hh (isSubtype (.type "int") (.ref C)) false := looks_subIn X O.su
  have L6 : Looks (model prog w) hh (numberSlotInPython (.ref C) nm) true := ksp_inPy X O.ls O.rs (.inr ⟨_, rfl⟩)
  have L7 : Looks (model prog w) hh (numberSlotInPython (.type "int") nm) false := Looks.of_pure rfl
  have L8 : Looks (model prog w) hh (typeLookup (.type "int") (dunderR nm)) ro := looks_findIn X h2
  generalize ((fo.isSome && !isSeqSlot fo) || (ro.isSome && !isSeqSlot ro)) = right at L4
  have hne : (Value.ref C == Value.type "int") = false := Bool.eq_false_iff.mpr fun q => by cases beq_iff_eq.mp q
  unfold binaryOp1
  refine wpAny_bind (L1.at (wpAny_bind (L2.at (wpAny_bind (L3.at ?_)))))
  simp only [hne, Bool.false_eq_true, if_false]
  cases right with
  | false =>
    ksp_lk
    refine wpAny_mono one (fun r s' hr' => ?_) fun _ _ e => e
    obtain ⟨v, rfl, hq⟩ := hr'
    ksp_lk
    exact ⟨v, rfl, hq⟩
  | true =>
    ksp_lk
    refine wpAny_mono one (fun r s' hr' => ?_) fun _ _ e => e
    obtain ⟨v, rfl, hq⟩ := hr'
    ksp_lk
    exact ⟨v, rfl, hq⟩
theorem b1_rint {x dx : Addr} {i : Int} {t : Tok} {odx : Option Obj} {id : String} {B : Builtin} {Q : Value → Shared → Prop} (D : Dec nm id B) (X : K.In s.heap) (O : OpO K C nm f g) (I : InstAt s.heap x (instObj C dx) C odx)
    (h : wpAny (model prog w) A (call (.ref g) [.ref x, .int i t]) (PySem.W.CmpBack Q) Ex s) : wpAny (model prog w) A (binaryOp1 nm (.int i t) (.ref x)) (fun r s' => ∃ v, r = some v ∧ Q v s') Ex s := by
  obtain ⟨cd, rest, hcd, hm⟩ := ksp_first O.sf
  have one := ksp_try X I O.rs O.rf h
  have two : wpAny (model prog w) A (tryMethod (.int i t) (PySem.dunder nm) (.ref x)) (fun r s' => r = none ∧ s' = s) Ex s :=
    wpAny_tryMethod_declines (typeIs_int s i t) D.slot (call_meets D.slot (typeIs_int s i t) D.entry (D.args _ _) (D.body i t x C dx) ⟨I.at_, rfl, rfl, rfl⟩)
  have L1 : Looks (model prog w) s.heap (typeOf (.ref x)) (.ref C) := I.type
  have L3 : Looks (model prog w) s.heap (fillsNumberSlot (.ref C) nm) true := fills_K X hcd hm O.ls
  have L5 : Looks (model prog w) s.heap (isSubtype (.ref C) (.type "int")) false := looks_subIn X O.us
  have hne : (Value.type "int" == Value.ref C) = false := Bool.eq_false_iff.mpr fun q => by cases beq_iff_eq.mp q
  have hpy : numberSlotInPython (.type "int") nm = pure false := rfl
  unfold binaryOp1
  refine wpAny_bind (wpAny_typeOf (typeIs_int s i t) (wpAny_bind (L1.here (wpAny_bind (wpAny_of_eq D.fills ?_)))))
  simp only [hne, Bool.false_eq_true, if_false]
  refine wpAny_bind (L3.here ?_)
  simp only [Bool.and_self, if_true]
  refine wpAny_bind (L5.here ?_)
  simp only [Bool.false_eq_true, if_false, pure_bind, Bool.not_false, Bool.and_self, if_true, hpy]
  refine wpAny_bind (wpAny_mono two (fun r s' hr => ?_) fun _ _ e => e)
  obtain ⟨rfl, rfl⟩ := hr
  refine wpAny_bind (wpAny_mono one (fun r s' hr => ?_) fun _ _ e => e)
  obtain ⟨v, rfl, hq⟩ := hr
  ksp_lk
  exact ⟨v, rfl, hq⟩
end

/-! ### the operators as rules -/
section
variable {X : Cx} {CX CX' : CXT} {k k' : Nat} {C f g : Addr} {fd fd' : FuncData} {ps ps' : List Str} {sp sp' : Sp} {E : XK} {op : Operator}
theorem op_or {F : Value → Value → Sem Value} {r1 r2 : R2} (a : OpR X F r1) (b : OpR X F r2) : OpR X F (fun x y H Q => r1 x y H Q ∨ r2 x y H Q) := by
  intro pins s σ H x y v u Q I rx ry h
  rcases h with h | h
  · exact a pins s σ H x y v u Q I rx ry h
  · exact b pins s σ H x y v u Q I rx ry h
theorem un_or {F : Value → Sem Value} {r1 r2 : V → Hp → VK → Prop} (a : UnR X F r1) (b : UnR X F r2) : UnR X F (fun x H Q => r1 x H Q ∨ r2 x H Q) := by
  intro pins s σ H x v Q I rx h
  rcases h with h | h
  · exact a pins s σ H x v Q I rx h
  · exact b pins s σ H x v Q I rx h
def rOO (C : Addr) (sp : Sp) (E : XK) : R2 := fun x y H Q => ∃ a dx fs b dy gs, x = .ref a ∧ y = .ref b ∧ H a = some (.ins C dx fs) ∧ H b = some (.ins C dy gs) ∧ sp [.ref a, .ref b] H Q E
def rOI (C : Addr) (sp : Sp) (E : XK) : R2 := fun x y H Q => ∃ a dx fs i, x = .ref a ∧ y = .int i ∧ H a = some (.ins C dx fs) ∧ sp [.ref a, .int i] H Q E
def rIO (C : Addr) (sp : Sp) (E : XK) : R2 := fun x y H Q => ∃ b dy gs i, x = .int i ∧ y = .ref b ∧ H b = some (.ins C dy gs) ∧ sp [.ref b, .int i] H Q E
theorem b1_oo {nm : String} (O : OpO X.K C nm f g) (F : FnOk X.prog X.w X.K X.mg X.base CX k f fd ps sp) (hr : Room k X.A) (hb : Binds X.K fd ps []) (hx : Passes CX X E)
    {pins : List (Addr × Obj)} {s : Shared} {σ : L2.St} {H : Hp} {x y : V} {v u : Value} {Q : VK} (I : Inv X pins σ H s) (rx : RelV x v) (ry : RelV y u) (h : rOO C sp E x y H Q) :
    wpAny (model X.prog X.w) X.A (binaryOp1 nm v u) (fun r s' => ∃ z, r = some z ∧ EP X pins σ Q z s') X.xe s := by
  obtain ⟨a, dx, fs, b, dy, gs, rfl, rfl, ea, eb, q⟩ := h
  obtain rfl : v = Value.ref a := rx
  obtain rfl : u = Value.ref b := ry
  obtain ⟨mA, J, _⟩ := ins_get I.hok ea
  obtain ⟨od, J, _⟩ := J.look
  obtain ⟨mB, J', _⟩ := ins_get I.hok eb
  obtain ⟨od', J', _⟩ := J'.look
  exact b1_own I.kIn O J J' (wpAny_mono (run_own (vs := [V.ref a, V.ref b]) F hr hb hx I (.cons rfl (.cons rfl .nil)) q) (fun _ _ z => back_of z) fun _ _ e => e)
theorem b1_oi {nm : String} (O : OpO X.K C nm f g) (F : FnOk X.prog X.w X.K X.mg X.base CX k f fd ps sp) (hr : Room k X.A) (hb : Binds X.K fd ps []) (hx : Passes CX X E)
    {pins : List (Addr × Obj)} {s : Shared} {σ : L2.St} {H : Hp} {x y : V} {v u : Value} {Q : VK} (I : Inv X pins σ H s) (rx : RelV x v) (ry : RelV y u) (h : rOI C sp E x y H Q) :
    wpAny (model X.prog X.w) X.A (binaryOp1 nm v u) (fun r s' => ∃ z, r = some z ∧ EP X pins σ Q z s') X.xe s := by
  obtain ⟨a, dx, fs, i, rfl, rfl, ea, q⟩ := h
  obtain rfl : v = Value.ref a := rx
  obtain ⟨t, rfl⟩ := ry
  obtain ⟨mA, J, _⟩ := ins_get I.hok ea
  obtain ⟨od, J, _⟩ := J.look
  exact b1_int I.kIn O J (wpAny_mono (run_own (vs := [V.ref a, V.int i]) F hr hb hx I (.cons rfl (.cons ⟨t, rfl⟩ .nil)) q) (fun _ _ z => back_of z) fun _ _ e => e)
theorem b1_io {nm : String} {id : String} {B : Builtin} (D : Dec nm id B) (O : OpO X.K C nm f g) (F : FnOk X.prog X.w X.K X.mg X.base CX k g fd ps sp) (hr : Room k X.A) (hb : Binds X.K fd ps []) (hx : Passes CX X E)
    {pins : List (Addr × Obj)} {s : Shared} {σ : L2.St} {H : Hp} {x y : V} {v u : Value} {Q : VK} (I : Inv X pins σ H s) (rx : RelV x v) (ry : RelV y u) (h : rIO C sp E x y H Q) :
    wpAny (model X.prog X.w) X.A (binaryOp1 nm v u) (fun r s' => ∃ z, r = some z ∧ EP X pins σ Q z s') X.xe s := by
  obtain ⟨b, dx, fs, i, rfl, rfl, ea, q⟩ := h
  obtain rfl : u = Value.ref b := ry
  obtain ⟨t, rfl⟩ := rx
  obtain ⟨mA, J, _⟩ := ins_get I.hok ea
  obtain ⟨od, J, _⟩ := J.look
  exact b1_rint D I.kIn O J (wpAny_mono (run_own (vs := [V.ref b, V.int i]) F hr hb hx I (.cons rfl (.cons ⟨t, rfl⟩ .nil)) q) (fun _ _ z => back_of z) fun _ _ e => e)
theorem bin_of {M : Model} {A : Around} {Ex : Value → Shared → Prop} {s : Shared} {nm : String} (hn : op.info.2 = nm) {v u : Value} {R : Value → Shared → Prop} (h : wpAny M A (binaryOp1 nm v u) (fun r s' => ∃ z, r = some z ∧ R z s') Ex s) : wpAny M A (binaryOp op v u) R Ex s := by
  unfold binaryOp
  refine wpAny_holding (wpAny_bind ?_)
  subst hn
  refine wpAny_mono (show wpAny M A (binaryOp1 op.info.2 v u) _ _ _ from h) (fun r s' hr => ?_) fun _ _ e => e
  obtain ⟨z, rfl, q⟩ := hr
  exact wpAny_pure q
theorem op_oo {nm : String} (hn : op.info.2 = nm) (O : OpO X.K C nm f g) (F : FnOk X.prog X.w X.K X.mg X.base CX k f fd ps sp) (hr : Room k X.A) (hb : Binds X.K fd ps []) (hx : Passes CX X E) : OpR X (binaryOp op) (rOO C sp E) :=
  fun _ _ _ _ _ _ _ _ _ I rx ry h => bin_of hn (b1_oo O F hr hb hx I rx ry h)
theorem op_oi {nm : String} (hn : op.info.2 = nm) (O : OpO X.K C nm f g) (F : FnOk X.prog X.w X.K X.mg X.base CX k f fd ps sp) (hr : Room k X.A) (hb : Binds X.K fd ps []) (hx : Passes CX X E) : OpR X (binaryOp op) (rOI C sp E) :=
  fun _ _ _ _ _ _ _ _ _ I rx ry h => bin_of hn (b1_oi O F hr hb hx I rx ry h)
theorem op_io {nm : String} {id : String} {B : Builtin} (hn : op.info.2 = nm) (D : Dec nm id B) (O : OpO X.K C nm f g) (F : FnOk X.prog X.w X.K X.mg X.base CX k g fd ps sp) (hr : Room k X.A) (hb : Binds X.K fd ps []) (hx : Passes CX X E) : OpR X (binaryOp op) (rIO C sp E) :=
  fun _ _ _ _ _ _ _ _ _ I rx ry h => bin_of hn (b1_io D O F hr hb hx I rx ry h)
/-! ### in place, without a method of its own for it -/
structure NoI (K : PySem.W.Frag) (C : Addr) (nm : String) : Prop where
  mro : ∃ cd, PySem.W.clsIn K C = some cd ∧ cd.mro = [.ref C, .type "object"]
  own : PySem.W.findIn K (.ref C) (dunderI nm) = some none
  obj : PySem.W.findIn K (.type "object") (dunderI nm) = some none
open PySem.W in
theorem looks_noI {M : Model} {h : Heap} {nm : String} {add : Bool} {K : Frag} (X : K.In h) (N : NoI K C nm) : Looks M h (fillsInplaceSlot (.ref C) nm add) false := by
  intro A Q E s k q
  obtain ⟨cd, hc, hm⟩ := N.mro
  have Lm : Looks M h (mroOf (.ref C)) cd.mro := (looks_clsIn X hc).andThen (f := fun cd => pure cd.mro) .now
  have Lm' := Lm.keeps k
  obtain ⟨hh, g, d, tt, os⟩ := s
  have X' : K.In hh := X.keeps k
  have L1 : Looks M hh (typeLookup (.ref C) (dunderI nm)) none := looks_findIn X' N.own
  have L2 : Looks M hh (typeLookup (.type "object") (dunderI nm)) none := looks_findIn X' N.obj
  unfold fillsInplaceSlot
  refine wpAny_bind (Lm'.at ?_)
  rw [hm, List.anyM_cons]
  refine wpAny_bind (wpAny_bind (L1.at ?_))
  refine wpAny_pure ?_
  rw [if_neg Bool.false_ne_true, List.anyM_cons]
  refine wpAny_bind (wpAny_bind (L2.at ?_))
  refine wpAny_pure ?_
  rw [if_neg Bool.false_ne_true]
  exact wpAny_pure q
theorem inp_of {M : Model} {A : Around} {Ex : Value → Shared → Prop} {s : Shared} {nm : String} {K : PySem.W.Frag} {a dx : Addr} {ox : Obj} {od : Option Obj} (hn : op.info.2 = nm) (X : K.In s.heap) (I : PySem.W.InstAt s.heap a ox C od) (N : NoI K C nm) {u : Value} {R : Value → Shared → Prop}
    (h : wpAny M A (binaryOp1 nm (.ref a) u) (fun r s' => ∃ z, r = some z ∧ R z s') Ex s) : wpAny M A (inplaceOp op (.ref a) u) R Ex s := by
  subst hn
  unfold inplaceOp
  refine wpAny_holding ?_
  refine wpAny_bind (I.type.here ?_)
  refine wpAny_bind ((looks_noI X N).here ?_)
  rw [if_neg Bool.false_ne_true]
  refine wpAny_bind (wpAny_mono h (fun r s' hr => ?_) fun _ _ e => e)
  obtain ⟨z, rfl, q⟩ := hr
  exact wpAny_pure q
theorem iop_oo {nm : String} (hn : op.info.2 = nm) (N : NoI X.K C nm) (O : OpO X.K C nm f g) (F : FnOk X.prog X.w X.K X.mg X.base CX k f fd ps sp) (hr : Room k X.A) (hb : Binds X.K fd ps []) (hx : Passes CX X E) : OpR X (inplaceOp op) (rOO C sp E) := by
  intro pins s σ H x y v u Q I rx ry h
  have h' := b1_oo O F hr hb hx I rx ry h
  obtain ⟨a, dx, fs, b, dy, gs, rfl, rfl, ea, eb, q⟩ := h
  obtain rfl : v = Value.ref a := rx
  obtain ⟨mA, J, _⟩ := ins_get I.hok ea
  obtain ⟨od, J, _⟩ := J.look
  exact inp_of (dx := dx) hn I.kIn J N h'
theorem iop_oi {nm : String} (hn : op.info.2 = nm) (N : NoI X.K C nm) (O : OpO X.K C nm f g) (F : FnOk X.prog X.w X.K X.mg X.base CX k f fd ps sp) (hr : Room k X.A) (hb : Binds X.K fd ps []) (hx : Passes CX X E) : OpR X (inplaceOp op) (rOI C sp E) := by
  intro pins s σ H x y v u Q I rx ry h
  have h' := b1_oi O F hr hb hx I rx ry h
  obtain ⟨a, dx, fs, i, rfl, rfl, ea, q⟩ := h
  obtain rfl : v = Value.ref a := rx
  obtain ⟨mA, J, _⟩ := ins_get I.hok ea
  obtain ⟨od, J, _⟩ := J.look
  exact inp_of (dx := dx) hn I.kIn J N h'
/-! ### == by the class's own method, with either answer -/
theorem cmp_own (hs : PySem.W.findIn X.K (.ref C) "__eq__" = some (some (.ref f))) (hf : PySem.W.isFn X.K (.ref f) = true) (F : FnOk X.prog X.w X.K X.mg X.base CX k f fd ps sp) (hr : Room k X.A) (hb : Binds X.K fd ps []) (hx : Passes CX X E) : OpR X (compareOp .Eq) (rOO C sp E) := by
  intro pins s σ H x y v u Q I rx ry h
  obtain ⟨a, dx, fs, b, dy, gs, rfl, rfl, ea, eb, q⟩ := h
  obtain rfl : v = Value.ref a := rx
  obtain rfl : u = Value.ref b := ry
  obtain ⟨mA, J, _⟩ := ins_get I.hok ea
  obtain ⟨od, J, _⟩ := J.look
  obtain ⟨mB, J', _⟩ := ins_get I.hok eb
  obtain ⟨od', J', _⟩ := J'.look
  obtain ⟨m, hF⟩ := I.fr
  show wpAny (model X.prog X.w) X.A (richCompare .Eq (.ref a) (.ref b)) (EP X pins σ Q) X.xe s
  refine PySem.W.cmp_K (op := .Eq) (tb := .ref C) hr.units0 hF I.ok.mod.kin J J'.type (by simp [PySem.W.notFirst]) hs hf ?_
  exact wpAny_mono (run_own (vs := [V.ref a, V.ref b]) F hr hb hx I (.cons rfl (.cons rfl .nil)) q) (fun _ _ z => back_of z) fun _ _ e => e
/-! ### != of two lists with the same items -/
def plainV : V → Bool
  | .int _ => true
  | .ref _ => true
  | _ => false
def rNeSame (K : PySem.W.Frag) : R2 := fun x y H Q => ∃ a b xs, x = .ref a ∧ y = .ref b ∧ SqL K H a xs ∧ SqL K H b xs ∧ (∀ z ∈ xs, plainV z = true) ∧ Q (.bl false) H
theorem eqAt_same {A : Around} {s : Shared} {z : V} {u v : Value} (h : plainV z = true) (r : RelV z u) (r' : RelV z v) : SeqAt.EqAt A s u v true := by
  cases z with
  | int i =>
    have := eqAt_V (A := A) (s := s) r r' rfl rfl
    have e : eqV (.int i) (.int i) = true := by simp [eqV]
    rw [e] at this
    exact this
  | ref a =>
    obtain rfl : u = Value.ref a := r
    obtain rfl : v = Value.ref a := r'
    exact SeqAt.EqAt.same _
  | _ => cases h
theorem op_neSame (hu : X.A.units < cLine) : OpR X (compareOp .NotEq) (rNeSame X.K) := by
  intro pins s σ H x y v u Q I rx ry h
  obtain ⟨a, b, xs, rfl, rfl, ha, hb, hp, q⟩ := h
  obtain rfl : v = Value.ref a := rx
  obtain rfl : u = Value.ref b := ry
  obtain ⟨its, r, ⟨o, n, e, c, d, dt⟩, _⟩ := I.list ha
  obtain ⟨its2, r2, ⟨o2, n2, e2, c2, d2, dt2⟩, _⟩ := I.list hb
  have hsz : its.toArray.size = its2.toArray.size := by rw [List.size_toArray, List.size_toArray, ← r.length, ← r2.length]
  show wpAny (model X.prog X.w) X.A (richCompare .NotEq (.ref a) (.ref b)) (EP X pins σ Q) X.xe s
  refine SeqAt.RcNeAt.lists (e := fun _ => true) ⟨o, e, c, n, dt⟩ ⟨o2, e2, c2, n2, dt2⟩ hsz hu (fun j h1 h2 => ?_) _ _ _ _ ?_
  · have k1 : j < xs.length := by rw [r.length]; simpa using h1
    obtain ⟨w1, hw1, rw1⟩ := r.get (List.getElem?_eq_getElem k1)
    obtain ⟨w2, hw2, rw2⟩ := r2.get (List.getElem?_eq_getElem k1)
    have g1 : its[j]? = some its.toArray[j] := by
      have h1' : j < its.length := by simpa using h1
      rw [List.getElem?_eq_getElem h1'] <;> simp
    have g2 : its2[j]? = some its2.toArray[j] := by
      have h2' : j < its2.length := by simpa using h2
      rw [List.getElem?_eq_getElem h2'] <;> simp
    rw [g1] at hw1
    rw [g2] at hw2
    rw [Option.some.inj hw1, Option.some.inj hw2]
    exact eqAt_same (hp _ (List.getElem_mem k1)) rw1 rw2
  · have e : (!(List.range its.toArray.size).all fun _ => true) = false := by simp
    rw [e]
    exact ⟨.bl false, H, I, rfl, q⟩
end
/-! ### list or tuple -/
section
variable {X : Cx}
theorem ix_or {r1 r2 : R2} (a : IxR X r1) (b : IxR X r2) : IxR X (fun x y H Q => r1 x y H Q ∨ r2 x y H Q) := by
  intro value slice pins s σ H x y v u Q I rx ry h
  rcases h with h | h
  · exact a value slice pins s σ H x y v u Q I rx ry h
  · exact b value slice pins s σ H x y v u Q I rx ry h
def iSeq (K : PySem.W.Frag) (tl : TE) : TI := fun σ H R => tl σ H fun x H1 => ∃ a, x = .ref a ∧ (((∃ xs, SqL K H1 a xs) ∧ R (Itl K a) H1) ∨ ((∃ xs, SqT K H1 a xs) ∧ R (Itt K a) H1))
theorem pi_seq {tg l : Expr} {tl : TE} (hl : PE X l tl) : PI X tg l (iSeq X.K tl) := by
  refine ⟨fun pins s σ H R I h => ?_⟩
  refine thn (hl.run pins s σ H _ I h) fun v s1 ⟨x, H1, I1, r1, q1⟩ => ?_
  obtain ⟨a, e, ⟨⟨xs, hq⟩, q⟩ | ⟨⟨xs, hq⟩, q⟩⟩ := q1
  · subst e
    cases r1
    obtain ⟨its, rv, p, hz⟩ := I1.list hq
    refine wpAny_pyIter_list p.isList ?_
    refine ⟨s1.heap.objs.size, [s1.heap.objs.size], _, _, H1, rfl, I1.kept (t' := s1.toks) fun b o e => Heap.get?_push_of_some _ e, turn_list a _, ⟨_, Heap.get?_push_size _ rfl, rfl, rfl⟩, fun b hb => ?_, q⟩
    have e : b = s1.heap.objs.size := by simpa using hb
    subst e
    exact I1.fpOk (Nat.le_refl _) (I1.hok.fresh (Nat.le_refl _))
  · subst e
    cases r1
    obtain ⟨its, rv, p, hz⟩ := I1.tuple hq
    refine wpAny_pyIter_tuple (show s1.heap.IsTuple a its.toArray from p) ?_
    refine ⟨s1.heap.objs.size, [s1.heap.objs.size], _, _, H1, rfl, I1.kept (t' := s1.toks) fun b o e => Heap.get?_push_of_some _ e, turn_tuple a _, ⟨_, Heap.get?_push_size _ rfl, rfl, rfl⟩, fun b hb => ?_, q⟩
    have e : b = s1.heap.objs.size := by simpa using hb
    subst e
    exact I1.fpOk (Nat.le_refl _) (I1.hok.fresh (Nat.le_refl _))
end
end
end My

/-! My own rules about calls that raise: by keywords alone, at the caller's slots; through a def's body. -/
namespace My
open PySem PySem.Spec PyProof.Rows L2
section
variable {X : Cx} {CX : CXT} {k : Nat} {f : Addr} {fd : FuncData} {ps ks : List Str} {sp : Sp} {E : L2.St → XK} {x : Str} {p pos : Pos} {kws : List Keyword} {tk : TA} {g : List Value → List Value → List Value} {gV : List V → List V → List V}
theorem run_fnkS {pins : List (Addr × Obj)} {σ : L2.St} {H : Hp} {s : Shared} {Q : VK} {us ws : List Value} {vs zs : List V} (F : FnOk X.prog X.w X.K X.mg X.base CX k f fd ps sp) (hr : Room k X.A) (hb : KBinds X.K fd ps ks g gV) (hx : PassesAt CX X σ (E σ))
    (I : Inv X pins σ H s) (r : Vals vs us) (rz : Vals zs ws) (h : sp (gV vs zs) H Q (E σ)) : wpAny (model X.prog X.w) X.A (call (.ref f) us (ks.zip ws)) (EP X pins σ Q) X.xe s := by
  have r2 := hb.rel r rz
  have hl : (g us ws).length = ps.length := by rw [← r2.length]; exact F.len _ _ _ _ h
  refine wpAny_call (codeAny_mono (F.run X.A X.stack s H ⟨us, ks.zip ws⟩ (g us ws) (gV vs zs) Q (E σ) hr I.env0 (hb.to s us ws I.kIn hl) r2 h) fun r s' hq => ?_)
  cases r with
  | error e => exact hx pins H s e s' I hq
  | ok fl =>
    cases fl with
    | ret u => exact I.after hq
    | next => exact False.elim hq
    | brk => exact False.elim hq
    | cont => exact False.elim hq
def tCallK0S (sp : Sp) (gV : List V → List V → List V) (E : L2.St → XK) (tk : TA) : TE := fun σ H Q => tk σ H fun zs H2 => sp (gV [] zs) H2 Q (E σ)
theorem pe_callK0S (F : FnOk X.prog X.w X.K X.mg X.base CX k f fd ps sp) (hr : Room k X.A) (hg : Gl X x) (hm : X.mg x = some (.ref f)) (hk : PySem.W.keepIn X.K (.ref f) = true) (hb : KBinds X.K fd ps ks g gV) (hx : ∀ σ, PassesAt CX X σ (E σ))
    (hkw : PK X kws tk) (hall : (backToKw pos (keywordEach kws X.env)).all (·.1.isSome) = true := by rfl) (hks : (backToKw pos (keywordEach kws X.env)).filterMap (·.1) = ks := by rfl)
    (hdb : (x == ("__debug__" : Str)) = false := by decide)
    (hpl : ((backTo pos (starEach [] X.env)).any (·.1) || (backToKw pos (keywordEach kws X.env)).any (·.1.isNone)) = false := by rfl) :
    PE X (.Call (.Name x p) [] kws pos) (tCallK0S sp gV E tk) := by
  refine ⟨fun pins s σ H Q I h => ?_⟩
  refine wpAny_Call_Name_kw (ld_glob I hg hm ?_ hdb)
  refine PySem.W.callWith_KW0 (h₀ := X.base) I.ok.mod.kin hk hall (thn (hkw.run pos pins s σ H _ I h) fun ws s2 ⟨zs, H2, I2, rz, q2⟩ => ⟨I2.kIn, ?_⟩) hpl
  rw [hks]
  exact run_fnkS (us := []) (vs := []) F hr hb (hx σ) I2 .nil rz q2
end
section
variable {X : Cx} {E E' : XK}
/-- what a callee lets out leaves this def too -/
theorem passX (tk : Takes X (fun cls d _ H => E cls d H)) : Passes (L2.CX X.prog X.w) X E := fun pins σ H s e s' I c => L2.passes_call tk (fun _ _ _ _ h => h) pins σ H s e s' I c
end
end My

/-! My own rules: != by object.__ne__ over an own ==, x is a bool, o.m(k = v). -/
namespace My
open PySem PySem.Spec PyProof.Rows L2

section
variable {X : Cx} {CX : CXT} {k : Nat} {C f : Addr} {fd : FuncData} {ps : List Str} {sp : Sp} {E : XK}
/-- a method run below a built-in -/
theorem run_own1 {pins : List (Addr × Obj)} {s : Shared} {σ : L2.St} {H : Hp} {Q : VK} {us : List Value} {vs : List V} (F : FnOk X.prog X.w X.K X.mg X.base CX k f fd ps sp) (hr : Room (k + 1) X.A) (hb : Binds X.K fd ps []) (hx : Passes CX X E)
    (I : Inv X pins σ H s) (r : Vals vs us) (h : sp vs H Q E) : wpAny (model X.prog X.w) X.A.in1 (call (.ref f) us) (EP X pins σ Q) X.xe s := by
  have hl : (us ++ []).length = ps.length := by
    rw [List.append_nil, ← F.len _ _ _ _ h]
    exact r.length.symm
  refine wpAny_call (codeAny_mono (F.run X.A.in1 X.stack s H ⟨us, []⟩ us vs _ E hr.in1 I.env0.in1 (by
    have := hb s us I.kIn hl
    rw [List.append_nil] at this
    exact this) r h) fun r s' hq => ?_)
  cases r with
  | error e => exact hx pins σ H s e s' I hq
  | ok fl =>
    cases fl with
    | ret w => exact I.after hq
    | next => exact False.elim hq
    | brk => exact False.elim hq
    | cont => exact False.elim hq
/-- C has no != of its own -/
structure NoNe (K : PySem.W.Frag) (C f : Addr) : Prop where
  ne : PySem.W.findIn K (.ref C) "__ne__" = some (some (.builtin "object.__ne__"))
  ob : PySem.W.subIn K (.ref C) (.type "object") = some true
  eq : PySem.W.findIn K (.ref C) "__eq__" = some (some (.ref f))
  fn : PySem.W.isFn K (.ref f) = true
theorem ne_K {prog : Program} {w : World} {A : Around} {Ex : Value → Shared → Prop} {s : Shared} {K : PySem.W.Frag} {a b : Addr} {oa ob : Obj} {oda odb : Option Obj} {Q : Value → Shared → Prop} (hu : A.units + 1 < cLine) (X : K.In s.heap) (N : NoNe K C f)
    (I : PySem.W.InstAt s.heap a oa C oda) (J : PySem.W.InstAt s.heap b ob C odb) (h : wpAny (model prog w) A.in1 (call (.ref f) [.ref a, .ref b]) (fun v s' => ∃ r, v = .bool r ∧ Q (.bool (!r)) s') Ex s) :
    wpAny (model prog w) A (richCompare .NotEq (.ref a) (.ref b)) Q Ex s := by
  have body : wpAny (model prog w) A.in1 (Builtin.«object.__ne__» ⟨[.ref a, .ref b], []⟩) (fun fin s' => ∃ r, fin = .done (.ret (.bool (!r))) ∧ Q (.bool (!r)) s') Ex s := by
    unfold Builtin.«object.__ne__»
    refine wpAny_bind (wpAny_of_eq (a := ((Value.ref a : Value), [Value.ref b])) (by first | rfl | (simp only [slotArgs]; rfl)) ?_)
    refine wpAny_bind (wpAny_cRoomFor hu ?_)
    refine wpAny_bind (PySem.W.ifBound_K X I N.eq N.fn (wpAny_mono h (fun v s' hv => ?_) fun _ _ e => e))
    obtain ⟨r, rfl, q⟩ := hv
    refine wpAny_bind (wpAny_truthy_bool ?_)
    exact wpAny_pure ⟨r, rfl, q⟩
  have below : PySem.W.Looks (model prog w) s.heap (isInstance (.ref a) (.type "object")) true := I.type.andThen (PySem.W.looks_subIn X N.ob)
  have one : wpAny (model prog w) A (tryCompare (.ref a) "__ne__" (.ref b)) (fun r s' => ∃ t, r = some (.bool (!t)) ∧ Q (.bool (!t)) s') Ex s := by
    unfold tryCompare
    simp only [callSpecialIfBound?, bindSpecialIfBound?]
    refine wpAny_bind (wpAny_holding (wpAny_bind (wpAny_bind (wpAny_bind (I.type.here ((PySem.W.looks_findIn X N.ne).here ?_))))))
    simp only [F.cmp_object.ne.bind]
    refine wpAny_bind (wpAny_askSetting (wpAny_ite ?_))
    have fin : wpAny (model prog w) A (call (.builtin "object.__ne__") ([.ref a] ++ [.ref b]) >>= fun v => pure (some v)) (fun r s' => ∃ t, r = some (.bool (!t)) ∧ Q (.bool (!t)) s') Ex s := by
      refine wpAny_bind (wpAny_call (codeAny_call_builtin F.cmp_object.ne.plain F.cmpEntry_ne (PySem.W.check_slot F.cmpKind_ne F.cmpSplit_ne below (F.cmpArgs_ne _ _) (wpAny_mono body (fun fin s' hf => ?_) fun _ _ e => e))))
      obtain ⟨r, rfl, q⟩ := hf
      exact wpAny_pure ⟨r, rfl, q⟩
    have fin2 := wpAny_mono fin (Q' := fun a s' => wpAny (model prog w) A (match a with
        | some Value.notImplemented => pure none
        | none => pure none
        | some v => pure (some v)) (fun r s' => ∃ t, r = some (Value.bool !t) ∧ Q (Value.bool !t) s') Ex s') (fun r s' hr => by
      obtain ⟨t, rfl, q⟩ := hr
      exact wpAny_pure ⟨t, rfl, q⟩) fun _ _ e => e
    split
    · exact wpAny_pure (by exact fin2)
    · exact wpAny_tryCatch (wpAny_pure (by exact fin2))
  unfold richCompare
  simp only [oneThing_ref]
  refine wpAny_holding (wpAny_bind (wpAny_cRoomFor (by omega) ?_))
  refine wpAny_bind (I.type.here (wpAny_bind (J.type.here ?_)))
  split
  · rename_i q
    simp at q
  · refine wpAny_bind (wpAny_pure ?_)
    simp only [Bool.false_eq_true, if_false]
    refine wpAny_bind (wpAny_mono one (fun r s' z => ?_) fun _ _ e => e)
    obtain ⟨t, rfl, hq⟩ := z
    exact wpAny_pure hq
/-- x is y, two bools -/
theorem op_isB : OpR X (compareOp .Is) (fun x y H Q => ∃ a b, x = .bl a ∧ y = .bl b ∧ Q (.bl (decide (a = b))) H) := by
  intro pins s σ H x y v u Q I rx ry h
  obtain ⟨a, b, rfl, rfl, q⟩ := h
  cases rx
  cases ry
  show wpAny (model X.prog X.w) X.A (do return .bool (← isSame (.bool a) (.bool b))) (EP X pins σ Q) X.xe s
  refine wpAny_bind ?_
  unfold isSame
  cases a <;> cases b <;> exact wpAny_pure (wpAny_pure ⟨.bl (decide _), H, I, by rfl, q⟩)
section
variable {ks : List Str} {g : List Value → List Value → List Value} {gV : List V → List V → List V} {o : Expr} {m : Str} {pos apos : Pos} {kws : List Keyword} {ta : TE} {tk : TA}
/-- o.m(k = v, ..), nothing by place -/
def tMethK0 (C : Addr) (m : Str) (sp : Sp) (gV : List V → List V → List V) (E : XK) (ta : TE) (tk : TA) : TE := fun σ H Q => ta σ H fun x H1 => ∃ a dx fs, x = .ref a ∧ H1 a = some (.ins C dx fs) ∧ fs.lookup m = none ∧ tk σ H1 fun zs H2 => sp (gV [x] zs) H2 Q E
theorem pe_methK0 {pl : Sem Bool} (he : PE X o ta) (c : Cls X.K C) (hm : Meth X.K C m f) (F : FnOk X.prog X.w X.K X.mg X.base CX k f fd ps sp) (hr : Room k X.A) (hb : KBinds X.K fd ps ks g gV) (hx : Passes CX X E) (hkw : PK X kws tk)
    (hall : (backToKw pos (keywordEach kws X.env)).all (·.1.isSome) = true := by rfl) (hks : (backToKw pos (keywordEach kws X.env)).filterMap (·.1) = ks := by rfl)
    (hpl : ((backTo pos (starEach [] X.env)).any (·.1) || (backToKw pos (keywordEach kws X.env)).any (·.1.isNone)) = false := by rfl)
    (ht : eval (.Call (.Attribute o m apos) [] kws pos) X.env = (do
      let ov ← eval o X.env
      standAt apos.atName
      let (f, first) ← holding [ov] (getMethod ov m pl)
      callWith pos f first (backTo pos (starEach [] X.env)) (backToKw pos (keywordEach kws X.env))) := by rfl) :
    PE X (.Call (.Attribute o m apos) [] kws pos) (tMethK0 C m sp gV E ta tk) := by
  refine ⟨fun pins s σ H Q I h => ?_⟩
  refine PySem.W.methodCall_KW (pl := pl) (thn (he.run pins s σ H _ I h) fun u s1 ⟨x, H1, I1, rx, a, dx, fs, ex, ea, l, q⟩ => ?_) ht
  subst ex
  obtain rfl : u = Value.ref a := rx
  refine getmeth_ok I1 ea c hm l ?_
  refine PySem.W.callWith_KW0 (first := [.ref a]) (h₀ := X.base) I.ok.mod.kin hm.kp hall (thn (hkw.run pos pins s1 σ H1 _ I1 q) fun ws s2 ⟨zs, H2, I2, rz, q2⟩ => ⟨I2.kIn, ?_⟩) hpl
  rw [hks]
  exact run_fnk (us := [.ref a]) (vs := [.ref a]) F hr hb hx I2 (.cons rfl .nil) rz q2
end
/-! ### a built-in value == an instance: the instance's own == answers -/
theorem eq_right {prog : Program} {w : World} {A : Around} {Ex : Value → Shared → Prop} {s : Shared} {K : PySem.W.Frag} {a : Value} {b : Addr} {ob : Obj} {odb : Option Obj} {Ta ida : String} {Q : Value → Shared → Prop} (hu : A.units < cLine) (X : K.In s.heap)
    (he : PySem.W.findIn K (.ref C) "__eq__" = some (some (.ref f))) (hf : PySem.W.isFn K (.ref f) = true) (ha : s.TypeIs a Ta) (J : PySem.W.InstAt s.heap b ob C odb) (hsub : PySem.W.subIn K (.ref C) (.type Ta) = some false)
    (h1 : Slot Ta (cmpInfo .Eq).2.1 ida) (hc1 : ∀ Q' : Value → Shared → Prop, Q' .notImplemented s → wpAny (model prog w) A (call (.builtin ida) [a, .ref b]) Q' Ex s)
    (h : wpAny (model prog w) A (call (.ref f) [.ref b, a]) (fun v s' => ∃ r, v = .bool r ∧ Q (.bool r) s') Ex s) : wpAny (model prog w) A (richCompare .Eq a (.ref b)) Q Ex s := by
  have hne : (Value.type Ta != Value.ref C) = true := by
    rw [bne_iff_ne]
    exact fun z => nomatch z
  rcases hi : cmpInfo CmpOp.Eq with ⟨sym, n1, n2⟩
  have e1 : n1 = "__eq__" := by cases hi; rfl
  have e2 : n2 = "__eq__" := by cases hi; rfl
  rw [hi] at h1
  have one : wpAny (model prog w) A (tryCompare (.ref b) n2 a) (fun r s' => ∃ t, r = some (.bool t) ∧ Q (.bool t) s') Ex s := by
    rw [e2]
    unfold tryCompare
    refine wpAny_bind (PySem.W.ifBound_K X J he hf (wpAny_mono h (fun v s' hv => ?_) fun _ _ e => e))
    obtain ⟨r, rfl, q⟩ := hv
    exact wpAny_pure ⟨r, rfl, q⟩
  simp only [richCompare, hi, ha.oneThing_none]
  try with_reducible refine wpAny_holding ?_
  refine wpAny_bind (wpAny_cRoomFor hu ?_)
  refine wpAny_bind (wpAny_typeOf ha (wpAny_bind (J.type.here ?_)))
  simp only [hne, if_true]
  refine wpAny_bind ((PySem.W.looks_subIn X hsub).here ?_)
  simp only [Bool.false_eq_true, if_false, Bool.not_false, if_true]
  refine wpAny_bind (m := tryCompare a _ (.ref b)) (wpAny_tryCompare_declines ha h1 (hc1 _ ⟨rfl, ?_⟩))
  refine wpAny_bind (m := tryCompare (.ref b) _ a) (wpAny_mono one (fun r s' hr => ?_) fun _ _ e => e)
  obtain ⟨t, rfl, q⟩ := hr
  exact wpAny_pure q
theorem dec_int_eq (a : Int) (t : Tok) (l C dx : Addr) : Meets (Builtin.«int.__eq__» ⟨[.int a t, .ref l], []⟩) (fun _ R s => s.heap.get? l = some (PySem.W.instObj C dx) ∧ R (.ok (.ret Value.notImplemented)) s) := .of_wp fun prog w A R s h => by obtain ⟨hp, g, d, tk, os⟩ := s; obtain ⟨hl, h⟩ := h; wp_walk; exact ⟨_, rfl, h⟩
theorem dec_str_eq (a : Str) (t : Tok) (l C dx : Addr) : Meets (Builtin.«str.__eq__» ⟨[.str a t, .ref l], []⟩) (fun _ R s => s.heap.get? l = some (PySem.W.instObj C dx) ∧ R (.ok (.ret Value.notImplemented)) s) := .of_wp fun prog w A R s h => by obtain ⟨hp, g, d, tk, os⟩ := s; obtain ⟨hl, h⟩ := h; wp_walk; exact ⟨_, rfl, h⟩
theorem dec_none_eq (l : Addr) : Gives (Builtin.«NoneType.__eq__» ⟨[.none, .ref l], []⟩) (.val (Value.notImplemented)) := .of_wp fun M A E s Q h => by obtain ⟨hp, g, d, tk, os⟩ := s; wp_walk; exact ⟨_, rfl, h⟩
section
variable {prog : Program} {w : World} {A : Around} {Ex : Value → Shared → Prop} {s : Shared}
theorem dec_list_eq {l b : Addr} {Q : Value → Shared → Prop} (hl : s.TypeIs (.ref l) "list") (hb : PySem.W.Looks (model prog w) s.heap (isInstance (.ref b) (.type "list")) false) (q : Q .notImplemented s) : wpAny (model prog w) A (call (.builtin "list.__eq__") [.ref l, .ref b]) Q Ex s := by
  refine GQ.call_here F.slot_list_eq hl F.entry_list_eq (F.args_list_eq_2 _ _) ?_
  obtain ⟨hp, g, d, tk, os⟩ := s
  wp_walk using hb.at
  exact q
theorem dec_tuple_eq {l b : Addr} {Q : Value → Shared → Prop} (hl : s.TypeIs (.ref l) "tuple") (hb : PySem.W.Looks (model prog w) s.heap (isInstance (.ref b) (.type "tuple")) false) (q : Q .notImplemented s) : wpAny (model prog w) A (call (.builtin "tuple.__eq__") [.ref l, .ref b]) Q Ex s := by
  refine GQ.call_here F.slot_tuple_eq hl F.entry_tuple_eq (F.args_tuple_eq_2 _ _) ?_
  obtain ⟨hp, g, d, tk, os⟩ := s
  wp_walk using hb.at
  exact q
end
/-! ### an instance in a list of other things, by its own == -/
section
open PySem.SeqAt MeetsSeq MeetsSeq2 MeetsSeq3 SeqRoads2
variable {prog : Program} {w : World} {A : Around} {R : Result → Shared → Prop}
theorem contains_loopG (l : Addr) (x : Value) (N : Nat) (I : Shared → Prop)
    (hl : ∀ s, I s → ∃ (items : Array Value) (n : Nat), s.heap.get? l = some { cls := .type "list", data := .seq items n } ∧ items.size = N ∧ ∀ i (h : i < items.size), wpAny (model prog w) A.in1 (eqBool items[i] x) (fun r s' => r = false ∧ I s') (fun e s' => R (.error e) s') s)
    (fin : ∀ s, I s → R (.ok (.ret (.bool false))) s) (k : Nat) :
    ∀ i : Nat, N - i = k → i ≤ N → ∀ s, I s → wpAny (model prog w) A.in1 (Builtin.«list.__contains__.loop» ⟨[.ref l, x, rawInt i], []⟩) (GQ.FinOf prog w A R) (fun e s' => R (.error e) s') s := by
  induction k with
  | zero =>
    intro i hk hi s h
    obtain ⟨items, n, hl1, hs1, _⟩ := hl _ h
    have hR : R (.ok (.ret (.bool false))) s := fin s h
    obtain ⟨hp, g, d, tk, os⟩ := s
    wp_walk using AutoSeq1.wpAny_loadPart' hl1
    have hi1 : items[((i : Nat) : Int).toNat]? = none := by simp; omega
    rw [hi1]
    wp_walk
    exact hR
  | succ k ih =>
    intro i hk hi s h
    obtain ⟨items, n, hl1, hs1, turn⟩ := hl _ h
    have hlt : i < items.size := by omega
    have ht := turn i hlt
    obtain ⟨hp, g, d, tk, os⟩ := s
    wp_walk using AutoSeq1.wpAny_loadPart' hl1
    have hi1 : items[((i : Nat) : Int).toNat]? = some items[i] := by simp [hlt]
    have hc : ((i : Int) + 1) = ((i + 1 : Nat) : Int) := by omega
    rw [hi1]
    refine wpAny_bind (wpAny_mono ht (fun r s2 h2 => ?_) fun _ _ x => x)
    obtain ⟨hr, h2⟩ := h2
    subst hr
    have hrec := ih (i + 1) (by omega) (by omega) s2 h2
    obtain ⟨hp2, g2, d2, tk2, os2⟩ := s2
    wp_walk
    rw [hc]
    exact ⟨plainId_quiet plain_contains_loop _, codeAny_builtin entry_contains_loop (by
      rw [Around.under_plainId plain_contains_loop _]
      exact hrec)⟩
theorem list_containsG (l : Addr) (x : Value) (N : Nat) (I : Shared → Prop)
    (hl : ∀ s, I s → ∃ (items : Array Value) (n : Nat), s.heap.get? l = some { cls := .type "list", data := .seq items n } ∧ items.size = N ∧ ∀ i (h : i < items.size), wpAny (model prog w) A.in1 (eqBool items[i] x) (fun r s' => r = false ∧ I s') (fun e s' => R (.error e) s') s)
    (fin : ∀ s, I s → R (.ok (.ret (.bool false))) s) {s : Shared} (h : I s) : wpAny (model prog w) A.in1 (Builtin.«list.__contains__» ⟨[.ref l, x], []⟩) (GQ.FinOf prog w A R) (fun e s' => R (.error e) s') s := by
  have hrec := contains_loopG (A := A) (R := R) l x N I hl fin _ 0 rfl (Nat.zero_le _) s h
  obtain ⟨items, n, hl1, _, _⟩ := hl _ h
  obtain ⟨hp, g, d, tk, os⟩ := s
  wp_walk using AutoSeq1.wpAny_loadPart' hl1
  exact ⟨plainId_quiet plain_contains_loop _, codeAny_builtin entry_contains_loop (by
    rw [Around.under_plainId plain_contains_loop _]
    exact hrec)⟩
end
theorem eqBool_any {prog : Program} {w : World} {A : Around} {Ex : Value → Shared → Prop} {s : Shared} {a : Value} {b : Addr} {Q : Bool → Shared → Prop} (hne : a ≠ .ref b) (h : wpAny (model prog w) A (richCompare .Eq a (.ref b)) (fun v s' => ∃ r, v = .bool r ∧ Q r s') Ex s) : wpAny (model prog w) A (eqBool a (.ref b)) Q Ex s := by
  unfold eqBool
  refine wpAny_holding ?_
  refine wpAny_ite_split (fun hab => absurd (eq_of_beq hab) hne) (fun _ => ?_)
  cases a <;> exact wpAny_bind (wpAny_mono h (fun v s' hv => by
    obtain ⟨r, rfl, q⟩ := hv
    exact wpAny_truthy_bool q) fun _ _ x => x)
/-- another thing than an instance -/
def Oth (K : PySem.W.Frag) (H : Hp) (y : V) : Prop := (∃ i, y = .int i) ∨ (∃ z, y = .str z) ∨ y = .non ∨ (∃ p xs, y = .ref p ∧ H p = some (.tup xs)) ∨ (∃ p xs, y = .ref p ∧ H p = some (.lst xs))
structure OthC (K : PySem.W.Frag) (C f : Addr) : Prop where
  eq : PySem.W.findIn K (.ref C) "__eq__" = some (some (.ref f))
  fn : PySem.W.isFn K (.ref f) = true
  i : PySem.W.subIn K (.ref C) (.type "int") = some false
  s : PySem.W.subIn K (.ref C) (.type "str") = some false
  n : PySem.W.subIn K (.ref C) (.type "NoneType") = some false
  t : PySem.W.subIn K (.ref C) (.type "tuple") = some false
  l : PySem.W.subIn K (.ref C) (.type "list") = some false
def rInO (K : PySem.W.Frag) (C : Addr) (sp : Sp) (E : XK) : R2 := fun x y H Q => ∃ a dx fs l ys, x = .ref a ∧ y = .ref l ∧ H a = some (.ins C dx fs) ∧ H l = some (.lst ys) ∧ (∀ z ∈ ys, Oth K H z ∧ sp [.ref a, z] H (fun v H' => v = .bl false ∧ H' = H) E) ∧ Q (.bl false) H
theorem in_own (O : OthC X.K C f) (Fk : FnOk X.prog X.w X.K X.mg X.base CX k f fd ps sp) (hr : Room (k + 1) X.A) (hb : Binds X.K fd ps []) (hx : Passes CX X E) : OpR X (compareOp .In) (rInO X.K C sp E) := by
  intro pins s σ H x y v u Q I rx ry h
  obtain ⟨a, dx, fs, l, ys, rfl, rfl, ea, el, hz, q⟩ := h
  obtain rfl : v = Value.ref a := rx
  obtain rfl : u = Value.ref l := ry
  obtain ⟨z0, its0, n0, r0, e0⟩ := I.hok l _ el
  show wpAny (model X.prog X.w) X.A (do return .bool (← contains (.ref l) (.ref a))) (EP X pins σ Q) X.xe s
  have hT : s.TypeIs (.ref l) "list" := ⟨_, e0, rfl⟩
  refine wpAny_bind (wpAny_contains_slot hT F.slot_list_contains (wpAny_mono (GQ.call_here (Q := fun v s' => v = .bool false ∧ Inv X pins σ H s') F.slot_list_contains hT F.entry_list_contains (F.args_list_contains_2 _ _)
    (list_containsG l (.ref a) ys.length (fun s' => Inv X pins σ H s') (fun s' I' => ?_) (fun s' I' => ⟨rfl, I'⟩) I)) (fun v s' hv => ?_) fun _ _ e => e))
  · obtain ⟨z1, its, n, r, e⟩ := I'.hok l _ el
    refine ⟨its.toArray, n, e, by rw [List.size_toArray]; exact r.length.symm, fun i hi => ?_⟩
    have k1 : i < ys.length := by rw [r.length]; simpa using hi
    obtain ⟨u, hu, ru⟩ := r.get (List.getElem?_eq_getElem k1)
    have g1 : its[i]? = some its.toArray[i] := by
      have h1' : i < its.length := by simpa using hi
      rw [List.getElem?_eq_getElem h1'] <;> simp
    rw [g1] at hu
    rw [Option.some.inj hu]
    obtain ⟨ho, hsp⟩ := hz _ (List.getElem_mem k1)
    obtain ⟨mA, J, _⟩ := ins_get I'.hok ea
    obtain ⟨od, J, _⟩ := J.look
    have own : wpAny (model X.prog X.w) X.A.in1 (call (.ref f) [.ref a, u]) (fun v s' => ∃ r, v = .bool r ∧ ∃ t, Value.bool r = .bool t ∧ (t = false ∧ Inv X pins σ H s')) X.xe s' := by
      refine wpAny_mono (run_own1 (vs := [V.ref a, ys[i]]) Fk hr hb hx I' (.cons rfl (.cons ru .nil)) hsp) (fun v s2 hv => ?_) fun _ _ e => e
      obtain ⟨x, H2, I2, rv, ex, eH⟩ := hv
      subst ex
      subst eH
      obtain rfl : v = Value.bool false := rv
      exact ⟨false, rfl, false, rfl, rfl, I2⟩
    have hu1 : X.A.in1.units < cLine := hr.in1.units0
    rcases ho with ⟨i', ei⟩ | ⟨z', ez⟩ | en | ⟨p, xs, ep, hp⟩ | ⟨p, xs, ep, hp⟩
    · rw [ei] at ru
      obtain ⟨t, rfl⟩ := ru
      exact eqBool_any (fun z => nomatch z) (eq_right hu1 I'.kIn O.eq O.fn (typeIs_int s' i' t) J O.i F.slot_int_eq (fun Q' q' => call_meets F.slot_int_eq (typeIs_int s' i' t) F.entry_int_eq (F.args_int_eq_2 _ _) (dec_int_eq i' t a C dx) ⟨J.at_, q'⟩) own)
    · rw [ez] at ru
      obtain ⟨t, rfl⟩ := ru
      exact eqBool_any (fun z => nomatch z) (eq_right hu1 I'.kIn O.eq O.fn (typeIs_str s' z' t) J O.s F.slot_str_eq (fun Q' q' => call_meets F.slot_str_eq (typeIs_str s' z' t) F.entry_str_eq (F.args_str_eq_2 _ _) (dec_str_eq z' t a C dx) ⟨J.at_, q'⟩) own)
    · rw [en] at ru
      obtain rfl : u = Value.none := ru
      exact eqBool_any (fun z => nomatch z) (eq_right hu1 I'.kIn O.eq O.fn (typeIs_none s') J O.n F.slot_NoneType_eq (fun Q' q' => call_gives F.slot_NoneType_eq (typeIs_none s') F.entry_NoneType_eq (F.args_NoneType_eq_2 _ _) (dec_none_eq a) q') own)
    · rw [ep] at ru
      obtain rfl : u = Value.ref p := ru
      obtain ⟨its2, r2, pt, _⟩ := I'.tuple (SqT.of hp)
      obtain ⟨ot, et, ct, _⟩ := id pt
      have hTp : s'.TypeIs (.ref p) "tuple" := ⟨ot, et, ct⟩
      have below : PySem.W.Looks (model X.prog X.w) s'.heap (isInstance (.ref a) (.type "tuple")) false := J.type.andThen (PySem.W.looks_subIn I'.kIn O.t)
      refine eqBool_any (fun z => ?_) (eq_right hu1 I'.kIn O.eq O.fn hTp J O.t F.slot_tuple_eq (fun Q' q' => dec_tuple_eq hTp below q') own)
      injection z with z
      rw [z, ea] at hp
      cases hp
    · rw [ep] at ru
      obtain rfl : u = Value.ref p := ru
      obtain ⟨z2, its2, n2, r2, e2⟩ := I'.hok p _ hp
      have hTp : s'.TypeIs (.ref p) "list" := ⟨_, e2, rfl⟩
      have below : PySem.W.Looks (model X.prog X.w) s'.heap (isInstance (.ref a) (.type "list")) false := J.type.andThen (PySem.W.looks_subIn I'.kIn O.l)
      refine eqBool_any (fun z => ?_) (eq_right hu1 I'.kIn O.eq O.fn hTp J O.l F.slot_list_eq (fun Q' q' => dec_list_eq hTp below q') own)
      injection z with z
      rw [z, ea] at hp
      cases hp
  · obtain ⟨rfl, I'⟩ := hv
    exact wpAny_truthy_bool (wpAny_pure ⟨.bl false, H, I', rfl, q⟩)
/-- != of two instances -/
theorem ne_own (N : NoNe X.K C f) (F : FnOk X.prog X.w X.K X.mg X.base CX k f fd ps sp) (hr : Room (k + 1) X.A) (hb : Binds X.K fd ps []) (hx : Passes CX X E) :
    OpR X (compareOp .NotEq) (fun x y H Q => rOO C sp E x y H (fun v H' => ∃ b, v = .bl b ∧ Q (.bl (!b)) H')) := by
  intro pins s σ H x y v u Q I rx ry h
  obtain ⟨a, dx, fs, b, dy, gs, rfl, rfl, ea, eb, q⟩ := h
  obtain rfl : v = Value.ref a := rx
  obtain rfl : u = Value.ref b := ry
  obtain ⟨mA, J, _⟩ := ins_get I.hok ea
  obtain ⟨od, J, _⟩ := J.look
  obtain ⟨mB, J', _⟩ := ins_get I.hok eb
  obtain ⟨od', J', _⟩ := J'.look
  show wpAny (model X.prog X.w) X.A (richCompare .NotEq (.ref a) (.ref b)) (EP X pins σ Q) X.xe s
  refine ne_K (by have := hr.un; omega) I.kIn N J J' (wpAny_mono (run_own1 (vs := [V.ref a, V.ref b]) F hr hb hx I (.cons rfl (.cons rfl .nil)) q) (fun v s2 hv => ?_) fun _ _ e => e)
  obtain ⟨x, H2, I2, rv, t, ex, q2⟩ := hv
  subst ex
  obtain rfl : v = Value.bool t := rv
  exact ⟨t, rfl, .bl (!t), H2, I2, rfl, q2⟩
section
variable {E : L2.St → XK} {o e : Expr} {es : List Expr} {m : Str} {pos apos : Pos} {ta : TE} {t : TA}
/-- o.m(e, ..), what is let out wished for at the caller's slots -/
def tMethE (C : Addr) (m : Str) (sp : Sp) (E : L2.St → XK) (ta : TE) (t : TA) : TE := fun σ H Q => ta σ H fun x H1 => ∃ a dx fs, x = .ref a ∧ H1 a = some (.ins C dx fs) ∧ fs.lookup m = none ∧ t σ H1 fun vs H2 => sp (x :: vs) H2 Q (E σ)
theorem pe_methE {pl : Sem Bool} (he : PE X o ta) (c : Cls X.K C) (hm : Meth X.K C m f) (F : FnOk X.prog X.w X.K X.mg X.base CX k f fd ps sp) (hr : Room k X.A) (hb : Binds X.K fd ps []) (hx : ∀ σ, PassesAt CX X σ (E σ)) (ha : PA X (e :: es) t)
    (hst : starEach (e :: es) X.env = (false, eval e X.env) :: starEach es X.env := by rfl) (hpl : (backTo pos (starEach es X.env)).any (·.1) = false := by rfl)
    (ht : eval (.Call (.Attribute o m apos) (e :: es) [] pos) X.env = (do
      let ov ← eval o X.env
      standAt apos.atName
      let (f, first) ← holding [ov] (getMethod ov m pl)
      callWith pos f first (backTo pos (starEach (e :: es) X.env)) (backToKw pos (keywordEach [] X.env))) := by rfl) :
    PE X (.Call (.Attribute o m apos) (e :: es) [] pos) (tMethE C m sp E ta t) := by
  refine ⟨fun pins s σ H Q I h => ?_⟩
  refine PySem.W.methodCall_KW (pl := pl) (thn (he.run pins s σ H _ I h) fun u s1 ⟨x, H1, I1, rx, a, dx, fs, ex, ea, l, q⟩ => ?_) ht
  subst ex
  obtain rfl : u = Value.ref a := rx
  refine getmeth_ok I1 ea c hm l ?_
  refine PySem.W.callWith_K (first := [.ref a]) (h₀ := X.base) I.ok.mod.kin hm.kp (thn (ha.run pos pins s1 σ H1 _ I1 q) fun us s2 ⟨vs, H2, I2, r, q2⟩ => ⟨I2.kIn, ?_⟩) hst hpl
  exact run_fnS (us := .ref a :: us) (vs := .ref a :: vs) F hr hb (hx σ) I2 (.cons rfl r) q2
end
/-- the receiver by place, the other by its name -/
def kSelf {α : Type} : List α → List α → List α
  | [u], ws => u :: ws
  | _, _ => []
theorem kbinds_self {K : PySem.W.Frag} {fd : FuncData} {p1 p2 k : Str} (h : ∀ (s : Shared) (u w : Value), BindsTo s fd ⟨[u], [(k, w)]⟩ [(p1, u), (p2, w)]) : KBinds K fd [p1, p2] [k] kSelf kSelf where
  to := fun s us ws _ hl => match us, ws, hl with
    | [u], [w], _ => h s u w
    | [], _, hl => nomatch hl
    | [_], [], hl => nomatch hl
    | [_], _ :: _ :: _, hl => by simp [kSelf] at hl
    | _ :: _ :: _, _, hl => nomatch hl
  rel := fun r rz => by
    cases r with
    | nil => exact .nil
    | cons a r =>
      cases r with
      | nil => exact .cons a rz
      | cons => exact .nil
end
end My

/-! My own rule: the own == of two instances within an except suite. -/
namespace My
open PySem PySem.Spec PyProof.Rows L2
/-- a def that may be called while an error is handled: the error stands at p, out of reach -/
structure FnP (P : Program) (w : World) (K : PySem.W.Frag) (mg : Str → Option Value) (base : Heap) (k : Nat) (f : Addr) (fd : FuncData) (ps : List Str) (sp : Sp) : Prop where
  len : ∀ vs H Q E, sp vs H Q E → vs.length = ps.length
  run : ∀ (A : Around) (outer : List Env) (s : Shared) (H : Hp) (args : Args) (us : List Value) (vs : List V) (Q : VK) (E : XK) (p : Addr × Obj), L2H.RoomH k A → L2H.PinOk outer H s p → Env0 P w K mg base A outer s H → BindsTo s fd args (ps.zip us) → Vals vs us → sp vs H Q E →
    codeAny (model P w) A (.call (.ref f) args) (CR CX0 outer P w H s Q E) s
theorem fnP_of {P : Program} {w : World} {K : PySem.W.Frag} {mg : Str → Option Value} {base : Heap} {x qual : Str} {st : Stmt} {f : Addr} {fd : FuncData} {N ps : List Str} {k : Nat} {sp : Sp} (F : Fun K x qual st f fd) (S : FnScope N ps (defScope st)) (len : ∀ vs H Q E, sp vs H Q E → vs.length = ps.length)
    (hbody : ∀ (cdv : Value) (A : Around) (outer : List Env) (s : Shared) (H : Hp) (vs : List V) (Q : VK) (E : XK) (p : Addr × Obj), sp vs H Q E →
      ∃ t, PSs (L2H.cxH CX0 P w K mg base N qual (defScope st) f cdv A outer s H E p) (defBody st) t ∧ t { nx := fun _ H' => Q .non H', rt := Q } (L2.start N vs) H) : FnP P w K mg base (k + 1) f fd ps sp := by
  obtain ⟨oc, od, kV, doc, pm, an, cdv, ct, osl, rfl, lk, hcd⟩ := F.ex
  refine ⟨len, fun A outer s H args us vs Q E p hr hpin e0 hb r hsp => ?_⟩
  have up : ∀ b o, base.get? b = some o → s.heap.get? b = some o := fun b o e => (e0.bs b o e).1
  refine codeAny_call_function hr.depth (e0.mod.kin.keeps up _ _ lk) rfl S.co S.gen rfl (PySem.W.codeRec_of (e0.mod.kin.keeps up) hcd) (hb _ _ _ _ ?_)
  refine wpAny_newFunctionEnv_cells S.kind (fun q hq => (S.par q.1 (List.of_mem_zip hq).1).elim .inl fun c => .inr ⟨c, PySem.W.cellsFrom_some _ _ _ (.inl c)⟩) fun env he s1 y => ?_
  subst he
  refine ⟨(e0.mod.nolimit.keeps up).keeps y.toInCall.keep, codeAny_func ?_⟩
  obtain ⟨t, ht, hq⟩ := hbody cdv A outer s H vs Q E p hsp
  refine wpAny_mono (ht.run [] s1 (L2.start N vs) H _ (L2H.inv_startH S hpin e0 (len _ _ _ _ hsp) r y) hq) (fun fl s' hs => ?_) fun e s' hs => hs
  cases fl with
  | ret u =>
    obtain ⟨v, σ', H', J, rv, q⟩ := hs
    exact ⟨v, H', J.os, J.bare, J.base, J.hok, rv, q⟩
  | next =>
    obtain ⟨σ', H', J, q⟩ := hs
    exact ⟨.non, H', J.os, J.bare, J.base, J.hok, rfl, q⟩
  | brk => exact hs.elim fun _ h => h.elim fun _ h => False.elim h.2
  | cont => exact hs.elim fun _ h => h.elim fun _ h => False.elim h.2
section
variable {X : Cx} {k : Nat} {C f : Addr} {fd : FuncData} {ps : List Str} {sp : Sp} {E : XK} {p : Addr × Obj}
theorem cmp_ownP (hs : PySem.W.findIn X.K (.ref C) "__eq__" = some (some (.ref f))) (hf : PySem.W.isFn X.K (.ref f) = true) (F : FnP X.prog X.w X.K X.mg X.base k f fd ps sp) (hr : L2H.RoomH k X.A) (hp : p ∈ X.pn) (hb : Binds X.K fd ps []) : OpR X (compareOp .Eq) (rOO C sp E) := by
  intro pins s σ H x y v u Q I rx ry h
  obtain ⟨a, dx, fs, b, dy, gs, rfl, rfl, ea, eb, q⟩ := h
  obtain rfl : v = Value.ref a := rx
  obtain rfl : u = Value.ref b := ry
  obtain ⟨mA, J, _⟩ := ins_get I.hok ea
  obtain ⟨od, J, _⟩ := J.look
  obtain ⟨mB, J', _⟩ := ins_get I.hok eb
  obtain ⟨od', J', _⟩ := J'.look
  obtain ⟨m, hF⟩ := I.fr
  have hl : ([Value.ref a, Value.ref b] ++ []).length = ps.length := by rw [← F.len _ _ _ _ q]; rfl
  have b2 := hb s [.ref a, .ref b] I.kIn hl
  have P1 := I.pin p (List.mem_append_left _ hp)
  have hpin : L2H.PinOk X.stack H s p := ⟨P1.1, P1.2.1, fun hm => (List.mem_cons.mp (I.stkSub p.1 hm)).elim P1.2.2.1 P1.2.2.2.1, P1.2.2.2.2⟩
  show wpAny (model X.prog X.w) X.A (richCompare .Eq (.ref a) (.ref b)) (EP X pins σ Q) X.xe s
  refine PySem.W.cmp_K (op := .Eq) (tb := .ref C) (by have := hr.un; omega) hF I.ok.mod.kin J J'.type (by simp [PySem.W.notFirst]) hs hf ?_
  refine wpAny_call (codeAny_mono (F.run X.A X.stack s H ⟨[.ref a, .ref b], []⟩ [.ref a, .ref b] [.ref a, .ref b] Q E p hr hpin I.env0 b2 (.cons rfl (.cons rfl .nil)) q) fun r s' hq => ?_)
  cases r with
  | error e => exact hq.elim
  | ok fl =>
    cases fl with
    | ret w => exact back_of (I.after hq)
    | next => exact False.elim hq
    | brk => exact False.elim hq
    | cont => exact False.elim hq
end
end My

/-! My own rules: a text times a number; a class method's call that raises, at the caller's slots. -/
namespace My
open PySem PySem.Spec PyProof.Rows L2
section
variable {X : Cx}
/-- z * k, only the length is told -/
def rRepS : R2 := fun x y H Q => ∃ (z : Str) (k : Int), x = .str z ∧ y = .int k ∧ 2 ≤ k ∧ k < 2 ^ 30 ∧ 1 ≤ z.length ∧ z.length * k.toNat ≤ sizeLine ∧ ∀ u : Str, u.length = k.toNat * z.length → (∀ c ∈ u.cps.toList, c ∈ z.cps.toList) → Q (.str u) H
theorem rep_size (x : Array Nat) : ∀ (n : Nat) (a : Array Nat), ((List.replicate n x).foldl (· ++ ·) a).size = a.size + n * x.size
  | 0, a => by simp
  | n + 1, a => by
    show ((List.replicate n x).foldl (· ++ ·) (a ++ x)).size = _
    rw [rep_size x n (a ++ x), Array.size_append, Nat.add_mul]
    omega
theorem rep_mem (x : Array Nat) : ∀ (n : Nat) (a : Array Nat) (c : Nat), c ∈ (List.replicate n x).foldl (· ++ ·) a → c ∈ a ∨ c ∈ x
  | 0, a, c, h => .inl h
  | n + 1, a, c, h => by
    rcases rep_mem x n (a ++ x) c h with h | h
    · exact Array.mem_append.mp h
    · exact .inr h
theorem op_repS : OpR X (binaryOp .Mult) rRepS := by
  intro pins s σ H x y v u Q I rx ry h
  obtain ⟨z, k, rfl, rfl, h2, h30, h1, hz, q⟩ := h
  obtain ⟨t, rfl⟩ := rx
  obtain ⟨t', rfl⟩ := ry
  have hl : Builtin.Str.tooLong (z.length * k.toNat) = false := decide_eq_false (by omega)
  have hs : sizeLine = 2 ^ 24 := rfl
  have hb : ¬ ((z.length : Int) > (2 ^ 63 - 1) / k) := by
    have e1 : z.length ≤ z.length * k.toNat := Nat.le_mul_of_pos_right _ (by omega)
    have e2 : (2 ^ 24 : Int) ≤ (2 ^ 63 - 1) / k := by
      rw [Int.le_ediv_iff_mul_le (by omega)]
      omega
    omega
  refine P.mul_str (by rw [decide_eq_false (by omega), decide_eq_false (by omega)]; rfl) (fun _ _ => hb) (fun _ _ => hl) ?_
  rw [if_neg (by omega), if_neg (by
    have a1 : (k == 1) = false := by simp; omega
    have a2 : (z.length == 0) = false := by simp; omega
    rw [a1, a2]
    exact Bool.false_ne_true)]
  have e : (⟨(List.replicate k.toNat z.cps).foldl (· ++ ·) #[]⟩ : Str).length = k.toNat * z.length := by
    show ((List.replicate k.toNat z.cps).foldl (· ++ ·) #[]).size = _
    rw [rep_size]
    show 0 + _ = _
    rw [Nat.zero_add]
    rfl
  refine ⟨?_, .str _, H, I.tok _, ⟨_, rfl⟩, q _ e fun c hc => ?_⟩
  rotate_left
  · rcases rep_mem z.cps k.toNat #[] c (Array.mem_toList_iff.mp hc) with h | h
    · exact absurd h (by simp)
    · exact Array.mem_toList_iff.mpr h
  show (⟨(List.replicate k.toNat z.cps).foldl (· ++ ·) #[]⟩ : Str).length ≤ sizeLine
  rw [e, Nat.mul_comm]
  exact hz
end
section
variable {X : Cx} {CX : CXT} {k : Nat} {C p g : Addr} {mc : Value} {fd : FuncData} {ps : List Str} {sp : Sp} {E : L2.St → XK} {o e : Expr} {es : List Expr} {m : Str} {pos apos : Pos} {ta : TE} {t : TA} {pl : Sem Bool}
def tCMethE (C : Addr) (sp : Sp) (E : L2.St → XK) (ta : TE) (t : TA) : TE := fun σ H Q => ta σ H fun x H1 => x = .ref C ∧ t σ H1 fun vs H2 => sp (.ref C :: vs) H2 Q (E σ)
theorem pe_cmethE (he : PE X o ta) (r : ClX.CRead X.K C mc) (c : ClX.CMet X.K C mc m p g) (F : FnOk X.prog X.w X.K X.mg X.base CX k g fd ps sp) (hr : Room k X.A) (hb : Binds X.K fd ps []) (hx : ∀ σ, PassesAt CX X σ (E σ)) (ha : PA X (e :: es) t)
    (hst : starEach (e :: es) X.env = (false, eval e X.env) :: starEach es X.env := by rfl) (hpl : (backTo pos (starEach es X.env)).any (·.1) = false := by rfl)
    (ht : eval (.Call (.Attribute o m apos) (e :: es) [] pos) X.env = (do
      let ov ← eval o X.env
      standAt apos.atName
      let (f, first) ← holding [ov] (getMethod ov m pl)
      callWith pos f first (backTo pos (starEach (e :: es) X.env)) (backToKw pos (keywordEach [] X.env))) := by rfl) :
    PE X (.Call (.Attribute o m apos) (e :: es) [] pos) (tCMethE C sp E ta t) := by
  refine ⟨fun pins s σ H Q I h => ?_⟩
  refine PySem.W.methodCall_KW (pl := pl) (thn (he.run pins s σ H _ I h) fun u s1 ⟨x, H1, I1, rx, ex, q⟩ => ?_) ht
  subst ex
  obtain rfl : u = Value.ref C := rx
  refine ClX.getmethcm_ok I1 r c fun s2 I2 => ?_
  refine ClX.callwith_cm I2 (ClX.base_none I1 (Nat.le_refl _)) c.fi (thn (ha.run pos _ s2 σ H1 _ I2 q) fun us s3 ⟨vs, H2, I3, rv, q2⟩ => ⟨⟨ClX.pin_at I3, I3.kIn⟩, ?_⟩) hst hpl
  suffices z : wpAny (model X.prog X.w) X.A (call (.ref s1.heap.objs.size) us) (EP X ((s1.heap.objs.size, PySem.W.methodObj (.ref g) (.ref C)) :: pins) σ Q) X.xe s3 from thn z fun _ _ y => ClX.unpinE y
  refine wpAny_call (PySem.W.method_call (ClX.pin_at I3) ?_)
  have r2 : Vals (V.ref C :: vs) (Value.ref C :: us) := .cons rfl rv
  have hl : (Value.ref C :: us).length = ps.length := by rw [← r2.length]; exact F.len _ _ _ _ q2
  have b := hb s3 (Value.ref C :: us) I3.kIn (by rw [List.append_nil]; exact hl)
  rw [List.append_nil] at b
  refine codeAny_mono (F.run X.A X.stack s3 H2 ⟨Value.ref C :: us, []⟩ (Value.ref C :: us) (V.ref C :: vs) Q (E σ) hr I3.env0 b r2 q2) fun r s' hq => ?_
  cases r with
  | error er => exact hx σ _ H2 s3 er s' I3 hq
  | ok fl =>
    cases fl with
    | ret u => exact I3.after hq
    | next => exact False.elim hq
    | brk => exact False.elim hq
    | cont => exact False.elim hq
end
theorem kit_vty {K : PySem.W.Frag} {C : Addr} {T : String} {b : Bool} (h : PySem.W.mroIn K C (.type T) = some b) (hm : PySem.W.kitMeta T = true) : PySem.W.kitOne K (.ref C) (.type T) = some b := by
  unfold PySem.W.kitOne
  rw [if_neg (by simp)]
  show (if PySem.W.kitMeta T = true then PySem.W.subIn K (.ref C) (.type T) else none) = some b
  rw [if_pos hm]
  exact h
end My

set_option maxHeartbeats 4000000
/-! My own rules: errors held as values: made, asked for their class, their attributes read. -/
namespace PySem
namespace HandSPX2
open PySem.W PySem.Calls PyProof.Rows PySem.HandSPX
section
variable {M : Model} {A : Around} {E : Value → Shared → Prop} {h : Heap} {g : Array GenState} {d : Drawn} {t : Nat} {os : OsState}
variable {nm q : Str} {C N : Addr} {bs bm bmB : List Value} {hdct : Bool} {sn : List Str} {sub : List Value} {ab : Bool} {col : Option Bool} {dd : Option Addr} {k0 k1 k2 k3 k5 : Option Value} {B newId initId : String}
theorem check_new_ownK (F : ExcBaseFacts B newId initId bmB) (hT : ∀ X : String, bm.contains (.type X) = bmB.contains (.type X)) {rest : List Value} {kws : List (Str × Value)} {Q : Unit → Shared → Prop}
    (hC : h.get? C = some (excClassObj nm q C N bs bm hdct sn sub ab col dd k0 k1 k2 k3 k5 newId)) (hq : Q () ⟨h, g, d, t, os⟩) : wpAny M A (checkBuiltinCall newId ⟨.ref C :: rest, kws⟩) Q E ⟨h, g, d, t, os⟩ := by
  have hcont : (Value.ref C :: bm).contains (.type B) = true := by rw [List.contains_cons, hT, F.hasB, Bool.or_true]
  have hstar := F.noStar
  simp only [checkBuiltinCall, F.newKind, F.newSplit, F.newRow]
  repeat (first | refine wpAny_loadPart_at hC ?_ | (refine wpAny_isSubtype_exc hC ?_; rw [hcont]) | refine wpAny_staticBase_exc hC ?_ | refine wpAny_madeBy_exc hC ?_ | simp only [bne_self_eq_false, Bool.false_eq_true, if_false] | wp_step)
  exact hq
end
section
variable {prog : Program} {w : World} {A : Around} {E : Value → Shared → Prop} {R : Result → Shared → Prop} {h : Heap} {g : Array GenState} {d : Drawn} {t : Nat} {os : OsState}
variable {nm q : Str} {C N : Addr} {bs bm bmB : List Value} {hdct : Bool} {sn : List Str} {sub : List Value} {ab : Bool} {col : Option Bool} {dd : Option Addr} {k0 k1 k2 k3 k5 : Option Value} {B newId initId : String}
theorem new_ownK (F : ExcBaseFacts B newId initId bmB) (hT : ∀ X : String, bm.contains (.type X) = bmB.contains (.type X)) {rest : List Value} {kws : List (Str × Value)}
    (hC : h.get? C = some (excClassObj nm q C N bs bm hdct sn sub ab col dd k0 k1 k2 k3 k5 newId))
    (hq : R (.ok (.ret (.ref (h.objs.size + 1)))) ⟨(h.push { cls := .type "tuple", data := .seq rest.toArray }).push
      { cls := .ref C, data := .fields #[.ref h.objs.size, .none, .none, .none, .bool false, .none] }, g, d, t, os⟩) (hrest : rest.length ≤ sizeLine) :
    codeAny (model prog w) A (.builtin newId ⟨.ref C :: rest, kws⟩) R ⟨h, g, d, t, os⟩ := by
  have hends := F.ends
  have hcB : (Value.ref C :: bm).contains (.type B) = true := by rw [List.contains_cons, hT, F.hasB, Bool.or_true]
  have hcA : (Value.ref C :: bm).contains (.type "AttributeError") = false := by rw [List.contains_cons, hT, F.noAttr]; rfl
  have hcN : (Value.ref C :: bm).contains (.type "NameError") = false := by rw [List.contains_cons, hT, F.noName]; rfl
  refine codeAny_builtinAt F.entry ?_
  unfold Builtin.«BaseException.__new__»
  refine wpAt_bind ?_
  show wpAt _ _ _ (stack >>= _) _ _ _
  refine wpAt_bind (wpAt_stack fun p below => wpAt_of_wpAny ?_)
  wp_walk
  refine wpAt_of_wpAny ?_
  rw [F.owner]
  repeat (first | with_reducible refine wpAny_madeHere_exc F.canon hC ?_ | with_reducible refine wpAny_loadPart_at hC ?_ | (with_reducible refine wpAny_isSubtype_exc hC ?_; first | rw [hcB] | rw [hcA] | rw [hcN]) | wp_step)
  show R _ _
  rw [Heap.size_push]
  exact hq
theorem type_call_ownK (F : ExcBaseFacts B newId initId bmB) (hT : ∀ X : String, bm.contains (.type X) = bmB.contains (.type X)) {rest : List Value} {kws : List (Str × Value)} {fI : Addr} {Q : Fin → Shared → Prop}
    (hC : h.get? C = some (excClassObj nm q C N bs bm hdct sn sub ab col dd k0 k1 k2 k3 k5 newId))
    (hi : W.Looks (model prog w) h (typeLookup (.ref C) "__init__") (some (.ref fI))) (hb : ∀ self, W.Looks (model prog w) h (bindSpecial (.ref fI) self) (.ref fI, [self])) (hrest : rest.length ≤ sizeLine)
    (hq : codeAny (model prog w) A (.call (.ref fI) ⟨.ref (h.objs.size + 1) :: rest, kws⟩)
      (fun r s' => match r with | .ok (.ret v) => v = .none ∧ Q (.done (.ret (.ref (h.objs.size + 1)))) s' | .ok _ => False | .error e => E e s')
      ⟨(h.push (W.kdv_tup rest)).push (excO C h.objs.size), g, d, t, os⟩) :
    wpAny (model prog w) A (Builtin.«type.__call__» ⟨.ref C :: rest, kws⟩) Q E ⟨h, g, d, t, os⟩ := by
  repeat (first | with_reducible refine wpAny_loadPart_at hC ?_ | with_reducible refine wpAny_madeBy_exc hC ?_ | wp_step)
  refine codeAny_call_builtin_code (Code.quiet_builtin _ F.quiet) (check_new_ownK F hT hC ?_)
  refine new_ownK F hT hC ?_ hrest
  show wpAny _ _ _ _ _ _
  have k : ∀ b o, h.get? b = some o → ((h.push (W.kdv_tup rest)).push (excO C h.objs.size)).get? b = some o := fun b o e => Heap.get?_push_of_some _ (Heap.get?_push_of_some _ e)
  have hC₁ := k _ _ hC
  have hget : ((h.push (W.kdv_tup rest)).push (excO C h.objs.size)).get? (h.objs.size + 1) = some (excO C h.objs.size) := by heap_get
  have hcC : (Value.ref C :: bm).contains (.ref C) = true := by simp
  have i1 := hi.keeps k
  have b1 := (hb (.ref (h.objs.size + 1))).keeps k
  unfold isInstance
  repeat (first | with_reducible refine wpAny_loadPart_at hget ?_ | (with_reducible refine wpAny_isSubtype_exc hC₁ ?_; rw [hcC]) | wp_step)
  show wpAny _ _ (typeLookup (.ref C) _) _ _ _
  refine i1.at ?_
  refine wpAny_holding (wpAny_bind (b1.at ?_))
  refine wpAny_bind (wpAny_call (codeAny_mono hq fun r s' z => ?_))
  rcases r with e | (v | _ | _ | _) <;> first | exact z | exact z.elim | skip
  obtain ⟨rfl, z⟩ := z
  first
    | exact wpAny_pure (wpAny_pure z)
    | (wp_walk; exact z)
theorem call_ownK (F : ExcBaseFacts B newId initId bmB) (hT : ∀ X : String, bm.contains (.type X) = bmB.contains (.type X)) {rest : List Value} {kws : List (Str × Value)} {fI : Addr}
    (hC : h.get? C = some (excClassObj nm q C N bs bm hdct sn sub ab col dd k0 k1 k2 k3 k5 newId))
    (hi : W.Looks (model prog w) h (typeLookup (.ref C) "__init__") (some (.ref fI))) (hb : ∀ self, W.Looks (model prog w) h (bindSpecial (.ref fI) self) (.ref fI, [self])) (hrest : rest.length ≤ sizeLine)
    (hq : codeAny (model prog w) (A.under (.builtin "type.__call__" ⟨.ref C :: rest, kws⟩)) (.call (.ref fI) ⟨.ref (h.objs.size + 1) :: rest, kws⟩) (W.InitBack (h.objs.size + 1) R)
      ⟨(h.push (W.kdv_tup rest)).push (excO C h.objs.size), g, d, t, os⟩) :
    codeAny (model prog w) A (.call (.ref C) ⟨rest, kws⟩) R ⟨h, g, d, t, os⟩ := by
  have f1 := tc_lookup
  have f2 := tc_bind (.ref C)
  have hTy : (⟨h, g, d, t, os⟩ : Shared).TypeIs (.ref C) "type" := ⟨_, hC, rfl⟩
  refine codeAny_of_tree ?_
  show wpAny _ _ (callAny (.ref C) _) _ _ _
  repeat (any_goals (first | assumption | with_reducible refine wpAny_loadPart_at hC ?_ | wp_step))
  refine ⟨rfl, ?_⟩
  refine codeAny_call_builtin_at (Code.quiet_builtin _ (by decide +kernel)) entry_typeCall (wpAny_check_type_call_sub hC (type_call_ownK F hT hC hi hb hrest ?_))
  refine codeAny_mono hq fun r s' z => ?_
  rcases r with e | (v | _ | _ | _) <;> exact z
end
end HandSPX2
end PySem
namespace My
open PySem PySem.Spec PyProof.Rows L2
/-- an error as a value: with its dict, or without one -/
def ErrV (H : Hp) (a D : Addr) : Prop := (∃ dx fs, H a = some (exo a D (some dx)) ∧ H dx = some (exd dx fs)) ∨ H a = some (ExO (.ref D) a)
theorem ErrV.on {H H' : Hp} {a D : Addr} (e : ErrV H a D) (s : Same H H') : ErrV H' a D := by
  rcases e with ⟨dx, fs, h1, h2⟩ | h
  · exact .inl ⟨dx, fs, s _ _ h1, s _ _ h2⟩
  · exact .inr (s _ _ h)
/-- an attribute of it -/
def ErrF (H : Hp) (a D : Addr) (n : Str) (v : V) : Prop := ∃ dx fs, H a = some (exo a D (some dx)) ∧ H dx = some (exd dx fs) ∧ fs.lookup n = some v
theorem ErrF.on {H H' : Hp} {a D : Addr} {n : Str} {v : V} (e : ErrF H a D n v) (s : Same H H') : ErrF H' a D n v := let ⟨dx, fs, h1, h2, h3⟩ := e; ⟨dx, fs, s _ _ h1, s _ _ h2, h3⟩
theorem ErrF.err {H : Hp} {a D : Addr} {n : Str} {v : V} (e : ErrF H a D n v) : ErrV H a D := let ⟨dx, fs, h1, h2, _⟩ := e; .inl ⟨dx, fs, h1, h2⟩
def rIsV (K : PySem.W.Frag) : List V → Hp → VK → Prop := fun xs H Q => ∃ (a D : Addr) (c : V) (cv : Value) (b : Bool), xs = [.ref a, c] ∧ ExcC K D ∧ ErrV H a D ∧ ClsV c cv ∧ PySem.W.kitOne K (.ref D) cv = some b ∧ Q (.bl b) H
theorem call_isV {X : Cx} : CallR X (.builtin "isinstance") (rIsV X.K) := by
  intro pins s σ H xs us Q I r h
  obtain ⟨a, D, c, cv, b, rfl, C, he, hcv, e, q⟩ := h
  obtain ⟨u, w', rfl, ru, rw'⟩ := vals2 r
  obtain rfl : u = Value.ref a := ru
  obtain rfl := hcv.eq rw'
  rcases he with ⟨dx, fs, h1, h2⟩ | h1
  · obtain ⟨t1, hget⟩ := exo_at I.hok h1
    obtain ⟨mA, hns, hrel⟩ := exd_at I.hok h2
    obtain ⟨od, ho, hl⟩ := lookIn_ns hns
    have J : PySem.W.InstAt s.heap a { cls := .ref D, dict := some dx, data := .fields #[.ref t1, .none, .none, .none, .bool false, .none] } D (some od) := ⟨hget, rfl, rfl, ho⟩
    exact PySem.W.kia_one (kit_err C) I.kIn J e (fun z => nomatch z) fun tk => ⟨.bl b, H, I.kept (t' := tk) fun _ _ z => z, rfl, q⟩
  · obtain ⟨⟨oe, vs, hget, hz, hv, _⟩, _, _⟩ := I.hok a _ h1
    have J : PySem.W.InstAt s.heap a oe D none := by
      obtain ⟨oc, od, oda, osl⟩ := oe
      obtain ⟨h1, h2⟩ := hz
      dsimp only at h1 h2 hv
      subst h1 h2 hv
      exact ⟨hget, rfl, rfl, trivial⟩
    exact PySem.W.kia_one (PySem.W.handS_kitx_exc C.hg C.hk C.hs C.hd C.ha C.hn C.ht C.hm) I.kIn J e (fun z => nomatch z) fun tk => ⟨.bl b, H, I.kept (t' := tk) fun _ _ z => z, rfl, q⟩
/-- o.f of an error held as a value -/
def tXv (D : Addr) (n : Str) (te : TE) : TE := fun σ H Q => te σ H fun x H1 => ∃ (a : Addr) (v : V), x = .ref a ∧ ErrF H1 a D n v ∧ Q v H1
theorem pe_xv {X : Cx} {D : Addr} {e : Expr} {te : TE} {pos : Pos} {n : Str} (T : XfC X.K D) (hno : PySem.W.findIn X.K (.ref D) n = some none) (he : PE X e te) (hb : attributeBase e n X.env (eval e X.env) = eval e X.env := by rfl) :
    PE X (.Attribute e n pos) (tXv D n te) := by
  refine ⟨fun pins s σ H Q I h => ?_⟩
  refine attr_of hb (thn (he.run pins s σ H _ I h) fun u s1 hh => ?_)
  obtain ⟨x, H1, I1, rx, a, v, ex, ⟨dd, fs, ea, ed, l⟩, q⟩ := hh
  subst ex
  obtain rfl : u = Value.ref a := rx
  obtain ⟨t1, hget⟩ := exo_at I1.hok ea
  obtain ⟨mA, hns, hr⟩ := exd_at I1.hok ed
  obtain ⟨od, ho, hl⟩ := lookIn_ns hns
  obtain ⟨u, hu, ru⟩ := RelO.some_of (v := v) (o := mA n) (by rw [← l]; exact hr n)
  have J : PySem.W.InstAt s1.heap a { cls := .ref D, dict := some dd, data := .fields #[.ref t1, .none, .none, .none, .bool false, .none] } D (some od) := ⟨hget, rfl, rfl, ho⟩
  exact HandSPX.exc_get I1.kIn J T.ga T.gg T.exC (PySem.W.findObj_own T.hdC hno rfl (by rw [hl, hu])) (handed_of ru) ⟨v, H1, I1.tok _, ru, q⟩
/-- C(e, ..), an own error class with an own __init__, as a value -/
structure mkO (C : Addr) (sp : Sp) (vs : List V) (H : Hp) (Q : VK) : Prop where
  len : vs.length ≤ 1000
  k : ∀ a, H a = none → sp (.ref a :: vs) (upd H a (exo a C none)) (fun v H2 => v = .non ∧ Q (.ref a) H2) E0
def tMkV (C : Addr) (sp : Sp) (ta : TA) : TE := fun σ H Q => ta σ H fun vs H1 => mkO C sp vs H1 Q
section
variable {X : Cx} {CX : CXT} {x : Str} {C fI : Addr} {k : Nat} {fd : FuncData} {ps ks : List Str} {sp : Sp} {p pos : Pos} {e : Expr} {es : List Expr} {ta tk : TA} {kws : List Keyword}
theorem run_oexK {pins : List (Addr × Obj)} {σ : L2.St} {H1 : Hp} {s1 : Shared} {Q : VK} {us : List Value} {kws0 : List (Str × Value)} {us2 : List Value} {vs : List V} (T : OexC X.K C) (iC : PySem.W.findIn X.K (.ref C) "__init__" = some (some (.ref fI))) (tI : PySem.W.typeIn X.K (.ref fI) = some (.type "function"))
    (F1 : FnOk X.prog X.w X.K X.mg X.base CX k fI fd ps sp) (hr : Room (k + 1) X.A) (hb : ∀ (s : Shared) (u : Value), X.K.In s.heap → BindsTo s fd ⟨u :: us, kws0⟩ (ps.zip (u :: us2))) (hx : Passes CX X E0) (I1 : Inv X pins σ H1 s1) (r1 : Vals vs us2) (hz : us.length ≤ 1000)
    (q1 : ∀ a, H1 a = none → sp (.ref a :: vs) (upd H1 a (exo a C none)) (fun v H2 => v = .non ∧ Q (.ref a) H2) E0) : wpAny (model X.prog X.w) X.A (call (.ref C) us kws0) (EP X pins σ Q) X.xe s1 := by
  obtain ⟨nm, q, N, bs, bm, sn, sub, ab, col, dd, k0, k1, k2, k3, k5, hC, hbm⟩ := T.cls
  obtain ⟨hp, g, dr, tk, os⟩ := s1
  have hsz : hp.objs.size ≤ hp.objs.size + 1 := Nat.le_succ _
  have hn : H1 (hp.objs.size + 1) = none := I1.hok.fresh hsz
  have hq := q1 (hp.objs.size + 1) hn
  have kk : ∀ b o, hp.get? b = some o → ((hp.push (PySem.W.kdv_tup us)).push (PySem.HandSPX.excO C hp.objs.size)).get? b = some o := fun b o e => Heap.get?_push_of_some _ (Heap.get?_push_of_some _ e)
  have hget : ((hp.push (PySem.W.kdv_tup us)).push (PySem.HandSPX.excO C hp.objs.size)).get? (hp.objs.size + 1) = some (PySem.HandSPX.excO C hp.objs.size) := by heap_get
  have I2 : Inv X pins σ (upd H1 (hp.objs.size + 1) (exo (hp.objs.size + 1) C none)) ⟨(hp.push (PySem.W.kdv_tup us)).push (PySem.HandSPX.excO C hp.objs.size), g, dr, tk, os⟩ :=
    I1.laid (t' := tk) (a := hp.objs.size + 1) (o := exo (hp.objs.size + 1) C none) (h' := (hp.push (PySem.W.kdv_tup us)).push (PySem.HandSPX.excO C hp.objs.size)) kk hsz (exo_ok hget)
  have r2 : Vals (V.ref (hp.objs.size + 1) :: vs) (Value.ref (hp.objs.size + 1) :: us2) := .cons rfl r1
  have b := hb ⟨(hp.push (PySem.W.kdv_tup us)).push (PySem.HandSPX.excO C hp.objs.size), g, dr, tk, os⟩ (Value.ref (hp.objs.size + 1)) I2.kIn
  have hus : us.length ≤ sizeLine := by
    rw [sizeLine_eq]
    omega
  refine wpAny_call (PySem.HandSPX2.call_ownK F.excBase_ValueError (fun Y => PySem.HandSPX.refsVE_contains Y bm hbm) (I1.kIn _ _ hC) (PySem.W.looks_findIn I1.kIn iC) (fun self => PySem.W.bind_fn I1.kIn self tI) hus
    (codeAny_mono (F1.run _ X.stack _ _ ⟨Value.ref (hp.objs.size + 1) :: us, kws0⟩ (Value.ref (hp.objs.size + 1) :: us2) _ _ E0 (hr.make C us kws0) (I2.env0.make C us kws0) b r2 hq) fun r s' hq' => ?_))
  cases r with
  | error er => exact hx pins σ _ _ er s' I2 hq'
  | ok fl =>
    cases fl with
    | ret u =>
      obtain ⟨v, H2, os2, bare2, un2, hok2, rv, ev, q2⟩ := hq'
      subst ev
      obtain ⟨h2, g2, d2, t2, os'⟩ := s'
      obtain rfl : os' = os := os2
      refine ⟨rv, ?_⟩
      exact ⟨.ref (hp.objs.size + 1), H2, I1.call (h' := h2) (g' := g2) (d' := d2) (t' := t2) (ch := []) (.trans (Un.laidN (fs := frs X.stack) (ex := []) (o := exo (hp.objs.size + 1) C none) kk (Heap.get?_none_of_le hsz) hn) un2) hok2 bare2 (fun b z => absurd z (by simp)), rfl, q2⟩
    | next => exact False.elim hq'
    | brk => exact False.elim hq'
    | cont => exact False.elim hq'
theorem pe_oex (T : OexC X.K C) (iC : PySem.W.findIn X.K (.ref C) "__init__" = some (some (.ref fI))) (tI : PySem.W.typeIn X.K (.ref fI) = some (.type "function"))
    (F1 : FnOk X.prog X.w X.K X.mg X.base CX k fI fd ps sp) (hr : Room (k + 1) X.A) (hb : Binds X.K fd ps []) (hx : Passes CX X E0) (hg : Gl X x) (hm : X.mg x = some (.ref C)) (ha : PA X (e :: es) ta)
    (hdb : (x == ("__debug__" : Str)) = false := by decide) (he : starEach (e :: es) X.env = (false, eval e X.env) :: starEach es X.env := by rfl) (hpl : (backTo pos (starEach es X.env)).any (·.1) = false := by rfl) :
    PE X (.Call (.Name x p) (e :: es) [] pos) (tMkV C sp ta) := by
  refine ⟨fun pins s σ H Q I h => ?_⟩
  refine wpAny_Call_Name_kw (ld_glob I hg hm ?_ hdb)
  refine PySem.W.callWith_K (h₀ := X.base) I.ok.mod.kin T.kC (thn (ha.run pos pins s σ H _ I h) fun us s1 ⟨vs, H1, I1, r1, hz, q1⟩ => ⟨I1.kIn, ?_⟩) he hpl
  refine run_oexK (us := us) (us2 := us) (kws0 := []) T iC tI F1 hr (fun s' u hK => ?_) hx I1 r1 (by rw [← Paired.length r1]; exact hz) q1
  have hl : (u :: us).length = ps.length := by
    have e := F1.len _ _ _ _ (q1 s1.heap.objs.size (I1.hok.fresh (Nat.le_refl _)))
    rw [← e, List.length_cons, List.length_cons, Paired.length r1]
  have b := hb s' (u :: us) hK (by rw [List.append_nil]; exact hl)
  rw [List.append_nil] at b
  exact b
/-- C(k = e, ..) -/
structure mkOK (C : Addr) (sp : Sp) (is : List Nat) (n : Nat) (zs : List V) (H : Hp) (Q : VK) : Prop where
  len : zs.length = n
  k : ∀ a, H a = none → sp (.ref a :: permL is zs) (upd H a (exo a C none)) (fun v H2 => v = .non ∧ Q (.ref a) H2) E0
def tMkVK (C : Addr) (sp : Sp) (is : List Nat) (n : Nat) (tk : TA) : TE := fun σ H Q => tk σ H fun zs H1 => mkOK C sp is n zs H1 Q
theorem pe_oexK {is : List Nat} (T : OexC X.K C) (iC : PySem.W.findIn X.K (.ref C) "__init__" = some (some (.ref fI))) (tI : PySem.W.typeIn X.K (.ref fI) = some (.type "function"))
    (F1 : FnOk X.prog X.w X.K X.mg X.base CX k fI fd ps sp) (hr : Room (k + 1) X.A) (hb : ∀ (s : Shared) (u : Value) (ws : List Value), ws.length = ks.length → BindsTo s fd ⟨[u], ks.zip ws⟩ (ps.zip (u :: permL is ws))) (hx : Passes CX X E0) (hg : Gl X x) (hm : X.mg x = some (.ref C))
    (hkw : PK X kws tk) (hall : (backToKw pos (keywordEach kws X.env)).all (·.1.isSome) = true := by rfl) (hks : (backToKw pos (keywordEach kws X.env)).filterMap (·.1) = ks := by rfl)
    (hdb : (x == ("__debug__" : Str)) = false := by decide)
    (hpl : ((backTo pos (starEach [] X.env)).any (·.1) || (backToKw pos (keywordEach kws X.env)).any (·.1.isNone)) = false := by rfl) :
    PE X (.Call (.Name x p) [] kws pos) (tMkVK C sp is ks.length tk) := by
  refine ⟨fun pins s σ H Q I h => ?_⟩
  refine wpAny_Call_Name_kw (ld_glob I hg hm ?_ hdb)
  refine PySem.W.callWith_KW0 (h₀ := X.base) I.ok.mod.kin T.kC hall (thn (hkw.run pos pins s σ H _ I h) fun ws s2 ⟨zs, H2, I2, rz, hz, q2⟩ => ⟨I2.kIn, ?_⟩) hpl
  rw [hks]
  exact run_oexK (us := []) (us2 := permL is ws) T iC tI F1 hr (fun s' u hK => hb s' u ws (by rw [← Paired.length rz]; exact hz)) hx I2 (permL_rel is rz) (Nat.zero_le _) q2
/-- C(), an own error class without an own __init__ -/
theorem pe_exc0 {bmB : List Value} {B newId initId : String} (F : ExcBaseFacts B newId initId bmB) (q : PySem.W.excIn X.K C bmB newId = true) (gC : X.mg x = some (.ref C)) (kC : PySem.W.keepIn X.K (.ref C) = true) (hg : Gl X x) (hdb : (x == ("__debug__" : Str)) = false := by decide) :
    PE X (.Call (.Name x p) [] [] pos) (fun σ H Q => ∀ a, H a = none → Q (.ref a) (upd H a (ExO (.ref C) a))) := by
  refine ⟨fun pins s σ H Q I h => ?_⟩
  refine wpAny_Call_Name_kw (ld_glob I hg gC ?_ hdb)
  refine PySem.W.callWith_KW0 (h₀ := X.base) I.ok.mod.kin kC (by rfl) (thn (pk_nil.run pos pins s σ H (fun vs H1 => vs = [] ∧ H1 = H) I ⟨rfl, rfl⟩) fun ws s2 ⟨zs, H2, I2, rz, ez, eH⟩ => ⟨I2.kIn, ?_⟩) (by rfl)
  subst eH
  show wpAny _ _ (call (.ref C) []) _ _ _
  obtain ⟨bm, N, nm, qn, bs, hdct, sn, sub, ab, col, dd, k0, k1, k2, k3, k5, mN, hC, hN, hni, T⟩ := exc_obj I2.kIn q
  refine wpAny_call_exc_subT F T hC hN hni (fun h' a hm => ?_) (Nat.zero_le _)
  have hn : H2 a = none := I2.hok.gone hm.new
  obtain ⟨t, ht, _, _⟩ := hm.there
  exact ⟨.ref a, upd H2 a (ExO (.ref C) a), I2.laidN hm.keeps hm.new hn (exO_ok ht ⟨rfl, rfl⟩ rfl rfl rfl (show 4 < 6 by decide)), rfl, h a hn⟩
end
/-! ### != of two lists of the same things -/
section
variable {X : Cx}
def plainW : V → Bool
  | .int _ => true
  | .ref _ => true
  | .str _ => true
  | .non => true
  | _ => false
def rNeSameW (K : PySem.W.Frag) : R2 := fun x y H Q => ∃ a b xs, x = .ref a ∧ y = .ref b ∧ SqL K H a xs ∧ SqL K H b xs ∧ (∀ z ∈ xs, plainW z = true) ∧ Q (.bl false) H
theorem eqAt_sameW {A : Around} {s : Shared} {z : V} {u v : Value} (h : plainW z = true) (r : RelV z u) (r' : RelV z v) : SeqAt.EqAt A s u v true := by
  cases z with
  | int i =>
    have := eqAt_V (A := A) (s := s) r r' rfl rfl
    have e : eqV (.int i) (.int i) = true := by simp [eqV]
    rw [e] at this
    exact this
  | str i =>
    have := eqAt_V (A := A) (s := s) r r' rfl rfl
    have e : eqV (.str i) (.str i) = true := by simp [eqV]
    rw [e] at this
    exact this
  | non =>
    have := eqAt_V (A := A) (s := s) r r' rfl rfl
    have e : eqV .non .non = true := by simp [eqV]
    rw [e] at this
    exact this
  | ref a =>
    obtain rfl : u = Value.ref a := r
    obtain rfl : v = Value.ref a := r'
    exact SeqAt.EqAt.same _
  | _ => cases h
theorem op_neSameW (hu : X.A.units < cLine) : OpR X (compareOp .NotEq) (rNeSameW X.K) := by
  intro pins s σ H x y v u Q I rx ry h
  obtain ⟨a, b, xs, rfl, rfl, ha, hb, hp, q⟩ := h
  obtain rfl : v = Value.ref a := rx
  obtain rfl : u = Value.ref b := ry
  obtain ⟨its, r, ⟨o, n, e, c, d, dt⟩, _⟩ := I.list ha
  obtain ⟨its2, r2, ⟨o2, n2, e2, c2, d2, dt2⟩, _⟩ := I.list hb
  have hsz : its.toArray.size = its2.toArray.size := by rw [List.size_toArray, List.size_toArray, ← r.length, ← r2.length]
  show wpAny (model X.prog X.w) X.A (richCompare .NotEq (.ref a) (.ref b)) (EP X pins σ Q) X.xe s
  refine SeqAt.RcNeAt.lists (e := fun _ => true) ⟨o, e, c, n, dt⟩ ⟨o2, e2, c2, n2, dt2⟩ hsz hu (fun j h1 h2 => ?_) _ _ _ _ ?_
  · have k1 : j < xs.length := by rw [r.length]; simpa using h1
    obtain ⟨w1, hw1, rw1⟩ := r.get (List.getElem?_eq_getElem k1)
    obtain ⟨w2, hw2, rw2⟩ := r2.get (List.getElem?_eq_getElem k1)
    have g1 : its[j]? = some its.toArray[j] := by
      have h1' : j < its.length := by simpa using h1
      rw [List.getElem?_eq_getElem h1'] <;> simp
    have g2 : its2[j]? = some its2.toArray[j] := by
      have h2' : j < its2.length := by simpa using h2
      rw [List.getElem?_eq_getElem h2'] <;> simp
    rw [g1] at hw1
    rw [g2] at hw2
    rw [Option.some.inj hw1, Option.some.inj hw2]
    exact eqAt_sameW (hp _ (List.getElem_mem k1)) rw1 rw2
  · have e : (!(List.range its.toArray.size).all fun _ => true) = false := by simp
    rw [e]
    exact ⟨.bl false, H, I, rfl, q⟩
def rEqSameW (K : PySem.W.Frag) : R2 := fun x y H Q => ∃ a b xs, x = .ref a ∧ y = .ref b ∧ SqL K H a xs ∧ SqL K H b xs ∧ (∀ z ∈ xs, plainW z = true) ∧ Q (.bl true) H
theorem op_eqSameW (hu : X.A.units < cLine) : OpR X (compareOp .Eq) (rEqSameW X.K) := by
  intro pins s σ H x y v u Q I rx ry h
  obtain ⟨a, b, xs, rfl, rfl, ha, hb, hp, q⟩ := h
  obtain rfl : v = Value.ref a := rx
  obtain rfl : u = Value.ref b := ry
  obtain ⟨its, r, ⟨o, n, e, c, d, dt⟩, _⟩ := I.list ha
  obtain ⟨its2, r2, ⟨o2, n2, e2, c2, d2, dt2⟩, _⟩ := I.list hb
  have hsz : its.toArray.size = its2.toArray.size := by rw [List.size_toArray, List.size_toArray, ← r.length, ← r2.length]
  show wpAny (model X.prog X.w) X.A (richCompare .Eq (.ref a) (.ref b)) (EP X pins σ Q) X.xe s
  refine SeqAt.RcAt.lists (e := fun _ => true) ⟨o, e, c, n, dt⟩ ⟨o2, e2, c2, n2, dt2⟩ hsz hu (fun j h1 h2 => ?_) _ _ _ _ ?_
  · have k1 : j < xs.length := by rw [r.length]; simpa using h1
    obtain ⟨w1, hw1, rw1⟩ := r.get (List.getElem?_eq_getElem k1)
    obtain ⟨w2, hw2, rw2⟩ := r2.get (List.getElem?_eq_getElem k1)
    have g1 : its[j]? = some its.toArray[j] := by
      have h1' : j < its.length := by simpa using h1
      rw [List.getElem?_eq_getElem h1'] <;> simp
    have g2 : its2[j]? = some its2.toArray[j] := by
      have h2' : j < its2.length := by simpa using h2
      rw [List.getElem?_eq_getElem h2'] <;> simp
    rw [g1] at hw1
    rw [g2] at hw2
    rw [Option.some.inj hw1, Option.some.inj hw2]
    exact eqAt_sameW (hp _ (List.getElem_mem k1)) rw1 rw2
  · have e : ((List.range its.toArray.size).all fun _ => true) = true := by simp
    rw [e]
    exact ⟨.bl true, H, I, rfl, q⟩
end
/-! ### an error class right under the common one -/
structure ErrC (K : PySem.W.Frag) (C EE : Addr) : Prop where
  ec : ExcC K C
  ic : PySem.W.isClsIn K C = true
  ty : PySem.W.typeIn K (.ref C) = some (.type "type")
  cl : ∃ cd, PySem.W.clsIn K C = some cd ∧ cd.mro = [.ref C, .ref EE, .type "ValueError", .type "Exception", .type "BaseException", .type "object"]
theorem ErrC.sub {K : PySem.W.Frag} {C EE : Addr} (e : ErrC K C EE) (base : Value) : PySem.W.mroIn K C base = some ([Value.ref C, .ref EE, .type "ValueError", .type "Exception", .type "BaseException", .type "object"].contains base) := by
  obtain ⟨cd, hc, hm⟩ := e.cl
  unfold PySem.W.mroIn
  rw [hc, Option.bind_some, hm]
  rfl
end My

set_option maxHeartbeats 4000000
/-! My own rules: an instance that is called, also by keywords, also where it raises; a class method by keywords in any order; a dict comprehension over any walk. -/
namespace My
open PySem PySem.Spec PyProof.Rows L2
section
variable {X : Cx} {CX : CXT} {k : Nat} {C g : Addr} {fd : FuncData} {ps ks : List Str} {sp : Sp} {E : L2.St → XK} {fe e : Expr} {es : List Expr} {kws : List Keyword} {pos : Pos} {tf : TE} {t tk : TA}
/-- f(e, ..), f an instance of C, what is let out wished for at the caller's slots -/
def tCallOE (X : Cx) (C : Addr) (sp : Sp) (E : L2.St → XK) (tf : TE) (t : TA) : TE := fun σ H Q => tf σ H fun y H1 => ∃ a, y = V.ref a ∧ t σ H1 fun vs H2 => StX.InsC X H2 a C ∧ sp (V.ref a :: vs) H2 Q (E σ)
theorem pe_callOE (hf : PE X fe tf) (c : StX.CallO X.K C g) (F : FnOk X.prog X.w X.K X.mg X.base CX k g fd ps sp) (hr : Room k X.A) (hb : Binds X.K fd ps []) (hx : ∀ σ, PassesAt CX X σ (E σ)) (ha : PA X (e :: es) t)
    (ht : eval (.Call fe (e :: es) [] pos) X.env = (do callWith pos (← eval fe X.env) [] (backTo pos (starEach (e :: es) X.env)) (backToKw pos (keywordEach [] X.env))) := by rfl)
    (he : starEach (e :: es) X.env = (false, eval e X.env) :: starEach es X.env := by rfl) (hpl : (backTo pos (starEach es X.env)).any (·.1) = false := by rfl) : PE X (.Call fe (e :: es) [] pos) (tCallOE X C sp E tf t) := by
  refine ⟨fun pins s σ H Q I h => ?_⟩
  refine Call_ (thn (hf.run pins s σ H _ I h) fun u s1 ⟨y, H1, I1, ry, a, ey, q⟩ => ?_) ht
  subst ey
  obtain rfl : u = Value.ref a := ry
  refine StX.callO_with (thn (ha.run pos pins s1 σ H1 _ I1 q) fun us s2 ⟨vs, H2, I2, r, hi, q2⟩ => ?_) he hpl
  obtain ⟨ox, od, J, hd⟩ := StX.insC_at I2 hi
  refine ⟨⟨C, ox, od, J, hd⟩, wpAny_call (PySem.W.kco_code I2.kIn J hd c.at_ c.fn c.fi ?_)⟩
  have r2 : Vals (V.ref a :: vs) (Value.ref a :: us) := .cons rfl r
  have hl : (Value.ref a :: us).length = ps.length := by rw [← r2.length]; exact F.len _ _ _ _ q2
  have b := hb s2 (Value.ref a :: us) I2.kIn (by rw [List.append_nil]; exact hl)
  rw [List.append_nil] at b
  refine codeAny_mono (F.run X.A X.stack s2 H2 ⟨Value.ref a :: us, []⟩ (Value.ref a :: us) (V.ref a :: vs) Q (E σ) hr I2.env0 b r2 q2) fun r s' hq => ?_
  cases r with
  | error er => exact hx σ _ H2 s2 er s' I2 hq
  | ok fl =>
    cases fl with
    | ret u => exact I2.after hq
    | next => exact False.elim hq
    | brk => exact False.elim hq
    | cont => exact False.elim hq
end
section
variable {X : Cx} {CX : CXT} {k : Nat} {C q0 g : Addr} {mc : Value} {fd : FuncData} {ps ks : List Str} {sp : Sp} {E : XK} {o : Expr} {m : Str} {pos apos : Pos} {kws : List Keyword} {ta : TE} {tk : TA} {pl : Sem Bool} {gg : List Value → List Value → List Value} {gV : List V → List V → List V}
def tCMethKN (C : Addr) (n : Nat) (sp : Sp) (gV : List V → List V → List V) (E : XK) (ta : TE) (tk : TA) : TE := fun σ H Q => ta σ H fun x H1 => x = .ref C ∧ tk σ H1 fun zs H2 => zs.length = n ∧ sp (gV [.ref C] zs) H2 Q E
theorem pe_cmethKN (he : PE X o ta) (r : ClX.CRead X.K C mc) (c : ClX.CMet X.K C mc m q0 g) (F : FnOk X.prog X.w X.K X.mg X.base CX k g fd ps sp) (hr : Room k X.A) (hx : Passes CX X E) (hkw : PK X kws tk)
    (hb : KBn X.K fd ps (0 + 1) ks gg gV)
    (hall : (backToKw pos (keywordEach kws X.env)).all (·.1.isSome) = true := by rfl) (hks : (backToKw pos (keywordEach kws X.env)).filterMap (·.1) = ks := by rfl)
    (hpl : ((backTo pos (starEach [] X.env)).any (·.1) || (backToKw pos (keywordEach kws X.env)).any (·.1.isNone)) = false := by rfl)
    (ht : eval (.Call (.Attribute o m apos) [] kws pos) X.env = (do
      let ov ← eval o X.env
      standAt apos.atName
      let (f, first) ← holding [ov] (getMethod ov m pl)
      callWith pos f first (backTo pos (starEach [] X.env)) (backToKw pos (keywordEach kws X.env))) := by rfl) :
    PE X (.Call (.Attribute o m apos) [] kws pos) (tCMethKN C ks.length sp gV E ta tk) := by
  refine ⟨fun pins s σ H Q I h => ?_⟩
  refine PySem.W.methodCall_KW (pl := pl) (thn (he.run pins s σ H _ I h) fun u s1 ⟨x, H1, I1, rx, ex, h2⟩ => ?_) ht
  subst ex
  obtain rfl : u = Value.ref C := rx
  refine ClX.getmethcm_ok I1 r c fun s2 I2 => ?_
  refine PySem.W.callWith_of hpl (PySem.W.keeps_M (K := X.K) (self := Value.ref C) c.fi) (evalArgs_kw2_nil hall (thn (hkw.run pos _ s2 σ H1 _ I2 h2) fun ws s3 ⟨zs, H2, I3, rz, hl, h3⟩ => ⟨⟨ClX.pin_at I3, I3.kIn⟩, ?_⟩))
  rw [hks]
  suffices z : wpAny (model X.prog X.w) X.A (call (.ref s1.heap.objs.size) [] (ks.zip ws)) (EP X ((s1.heap.objs.size, PySem.W.methodObj (.ref g) (.ref C)) :: pins) σ Q) X.xe s3 from thn z fun _ _ y => ClX.unpinE y
  refine wpAny_call (PySem.W.method_call (ClX.pin_at I3) ?_)
  have r1 : Vals [V.ref C] [Value.ref C] := .cons rfl .nil
  have r2 := hb.rel r1 rz
  refine codeAny_mono (F.run X.A X.stack s3 H2 ⟨Value.ref C :: [], ks.zip ws⟩ (gg [Value.ref C] ws) (gV [V.ref C] zs) Q E hr I3.env0 (hb.to s3 [Value.ref C] ws I3.kIn rfl (rz.length.symm.trans hl)) r2 h3) fun r s' hq => ?_
  cases r with
  | error er => exact hx _ σ H2 s3 er s' I3 hq
  | ok fl =>
    cases fl with
    | ret u => exact I3.after hq
    | next => exact False.elim hq
    | brk => exact False.elim hq
    | cont => exact False.elim hq
end
/-! ### an instance called by keywords -/
theorem callOK_of {M : Model} {A : Around} {E : Value → Shared → Prop} {s : Shared} {a : Addr} {pos : Pos} {Q : Value → Shared → Prop} {args : List (Bool × Sem Value)} {kws : List (Option Str × Sem Value)} (hplain : (args.any (·.1) || kws.any (·.1.isNone)) = false)
    (h : wpAny M A (evalArgs (.ref a) true args kws) (fun z s₁ => (∃ C ox od, PySem.W.InstAt s₁.heap a ox C od ∧ ox.data = .plain) ∧ wpAny M A (call (.ref a) ([] ++ z.pos) z.kw) Q E s₁) E s) : wpAny M A (callWith pos (.ref a) [] args kws) Q E s := by
  unfold callWith
  have h1 := (Bool.or_eq_false_iff.mp hplain).1
  have h2 := (Bool.or_eq_false_iff.mp hplain).2
  refine wpAny_bind (wpAny_holding (wpAny_mono (by first | exact h | (simp only [h1, h2]; exact h)) (fun z s₁ h₁ => wpAny_bind (wpAny_standAt ?_)) fun _ _ y => y))
  obtain ⟨⟨C, ox, od, J, hd⟩, h₁⟩ := h₁
  have L := PySem.W.kco_keeper (M := M) J hd
  simp only [h1, h2]
  refine wpAny_bind (L.here ?_)
  have tail : ∀ {t : Sem Value}, wpAny M A t Q E s₁ → wpAny M A (t >>= fun r => holding [r] point >>= fun _ => pure r) Q E s₁ :=
    fun ht => wpAny_bind (wpAny_mono ht (fun r s₂ hr => wpAny_bind (wpAny_holding (wpAny_point (wpAny_pure hr)))) fun _ _ y => y)
  exact tail (wpAny_operateT h₁)
section
variable {X : Cx} {CX : CXT} {k : Nat} {C g : Addr} {fd : FuncData} {ps ks : List Str} {sp : Sp} {E : XK} {fe : Expr} {kws : List Keyword} {pos : Pos} {tf : TE} {tk : TA}
def tCallOK (X : Cx) (C : Addr) (n : Nat) (sp : Sp) (E : XK) (tf : TE) (tk : TA) : TE := fun σ H Q => tf σ H fun y H1 => ∃ a, y = V.ref a ∧ tk σ H1 fun zs H2 => zs.length = n ∧ StX.InsC X H2 a C ∧ sp (V.ref a :: zs) H2 Q E
theorem pe_callOK (hf : PE X fe tf) (c : StX.CallO X.K C g) (F : FnOk X.prog X.w X.K X.mg X.base CX k g fd ps sp) (hr : Room k X.A) (hx : Passes CX X E) (hkw : PK X kws tk)
    (hb : ∀ (s : Shared) (u : Value) (ws : List Value), X.K.In s.heap → ws.length = ks.length → BindsTo s fd ⟨[u], ks.zip ws⟩ (ps.zip (u :: ws)))
    (hall : (backToKw pos (keywordEach kws X.env)).all (·.1.isSome) = true := by rfl) (hks : (backToKw pos (keywordEach kws X.env)).filterMap (·.1) = ks := by rfl)
    (hpl : ((backTo pos (starEach [] X.env)).any (·.1) || (backToKw pos (keywordEach kws X.env)).any (·.1.isNone)) = false := by rfl)
    (ht : eval (.Call fe [] kws pos) X.env = (do callWith pos (← eval fe X.env) [] (backTo pos (starEach [] X.env)) (backToKw pos (keywordEach kws X.env))) := by rfl) :
    PE X (.Call fe [] kws pos) (tCallOK X C ks.length sp E tf tk) := by
  refine ⟨fun pins s σ H Q I h => ?_⟩
  show wpAny _ _ (eval (.Call fe [] kws pos) X.env) _ _ _
  rw [ht]
  refine wpAny_bind (thn (hf.run pins s σ H _ I h) fun u s1 ⟨y, H1, I1, ry, a, ey, q⟩ => ?_)
  subst ey
  obtain rfl : u = Value.ref a := ry
  refine callOK_of hpl (evalArgs_kw2_nil hall (thn (hkw.run pos pins s1 σ H1 _ I1 q) fun ws s2 ⟨zs, H2, I2, rz, hl, hi, q2⟩ => ?_))
  rw [hks]
  obtain ⟨ox, od, J, hd⟩ := StX.insC_at I2 hi
  refine ⟨⟨C, ox, od, J, hd⟩, wpAny_call (PySem.W.kco_code I2.kIn J hd c.at_ c.fn c.fi ?_)⟩
  have r2 : Vals (V.ref a :: zs) (Value.ref a :: ws) := .cons rfl rz
  refine codeAny_mono (F.run X.A X.stack s2 H2 ⟨Value.ref a :: [], ks.zip ws⟩ (Value.ref a :: ws) (V.ref a :: zs) Q E hr I2.env0 (hb s2 (.ref a) ws I2.kIn (rz.length.symm.trans hl)) r2 q2) fun r s' hq => ?_
  cases r with
  | error er => exact hx _ σ H2 s2 er s' I2 hq
  | ok fl =>
    cases fl with
    | ret u => exact I2.after hq
    | next => exact False.elim hq
    | brk => exact False.elim hq
    | cont => exact False.elim hq
end
end My

/-! My own rules: an instance in a list of ints and itself, != an int, within an except suite. -/
namespace My
open PySem PySem.Spec PyProof.Rows L2
section
open PySem.SeqAt MeetsSeq MeetsSeq2 MeetsSeq3 SeqRoads2
variable {prog : Program} {w : World} {A : Around} {R : Result → Shared → Prop}
theorem eqBool_same {A : Around} {Ex : Value → Shared → Prop} {s : Shared} {a : Addr} {Q : Bool → Shared → Prop} (h : Q true s) : wpAny (model prog w) A (eqBool (.ref a) (.ref a)) Q Ex s := by
  unfold eqBool
  refine wpAny_holding ?_
  refine wpAny_ite_split (fun _ => ?_) (fun hab => absurd (beq_self_eq_true _) hab)
  wp_walk
  exact h
theorem contains_loopT (l : Addr) (x : Value) (j : Nat) (I : Shared → Prop)
    (hl : ∀ s, I s → ∃ (items : Array Value) (n : Nat), s.heap.get? l = some { cls := .type "list", data := .seq items n } ∧ j < items.size ∧ ∀ i (h : i < items.size), i ≤ j → wpAny (model prog w) A.in1 (eqBool items[i] x) (fun r s' => r = decide (i = j) ∧ I s') (fun e s' => R (.error e) s') s)
    (fin : ∀ s, I s → R (.ok (.ret (.bool true))) s) (k : Nat) :
    ∀ i : Nat, j - i = k → i ≤ j → ∀ s, I s → wpAny (model prog w) A.in1 (Builtin.«list.__contains__.loop» ⟨[.ref l, x, rawInt i], []⟩) (GQ.FinOf prog w A R) (fun e s' => R (.error e) s') s := by
  induction k with
  | zero =>
    intro i hk hi s h
    obtain ⟨items, n, hl1, hs1, turn⟩ := hl _ h
    have hlt : i < items.size := by omega
    have ht := turn i hlt hi
    obtain ⟨hp, g, d, tk, os⟩ := s
    wp_walk using AutoSeq1.wpAny_loadPart' hl1
    have hi1 : items[((i : Nat) : Int).toNat]? = some items[i] := by simp [hlt]
    rw [hi1]
    refine wpAny_bind (wpAny_mono ht (fun r s2 h2 => ?_) fun _ _ x => x)
    obtain ⟨hr, h2⟩ := h2
    rw [decide_eq_true (show i = j by omega)] at hr
    subst hr
    have hR := fin s2 h2
    obtain ⟨hp2, g2, d2, tk2, os2⟩ := s2
    wp_walk
    exact hR
  | succ k ih =>
    intro i hk hi s h
    obtain ⟨items, n, hl1, hs1, turn⟩ := hl _ h
    have hlt : i < items.size := by omega
    have ht := turn i hlt hi
    obtain ⟨hp, g, d, tk, os⟩ := s
    wp_walk using AutoSeq1.wpAny_loadPart' hl1
    have hi1 : items[((i : Nat) : Int).toNat]? = some items[i] := by simp [hlt]
    have hc : ((i : Int) + 1) = ((i + 1 : Nat) : Int) := by omega
    rw [hi1]
    refine wpAny_bind (wpAny_mono ht (fun r s2 h2 => ?_) fun _ _ x => x)
    obtain ⟨hr, h2⟩ := h2
    rw [decide_eq_false (show ¬ i = j by omega)] at hr
    subst hr
    have hrec := ih (i + 1) (by omega) (by omega) s2 h2
    obtain ⟨hp2, g2, d2, tk2, os2⟩ := s2
    wp_walk
    rw [hc]
    exact ⟨plainId_quiet plain_contains_loop _, codeAny_builtin entry_contains_loop (by
      rw [Around.under_plainId plain_contains_loop _]
      exact hrec)⟩
theorem list_containsT (l : Addr) (x : Value) (j : Nat) (I : Shared → Prop)
    (hl : ∀ s, I s → ∃ (items : Array Value) (n : Nat), s.heap.get? l = some { cls := .type "list", data := .seq items n } ∧ j < items.size ∧ ∀ i (h : i < items.size), i ≤ j → wpAny (model prog w) A.in1 (eqBool items[i] x) (fun r s' => r = decide (i = j) ∧ I s') (fun e s' => R (.error e) s') s)
    (fin : ∀ s, I s → R (.ok (.ret (.bool true))) s) {s : Shared} (h : I s) : wpAny (model prog w) A.in1 (Builtin.«list.__contains__» ⟨[.ref l, x], []⟩) (GQ.FinOf prog w A R) (fun e s' => R (.error e) s') s := by
  have hrec := contains_loopT (A := A) (R := R) l x j I hl fin _ 0 rfl (Nat.zero_le _) s h
  obtain ⟨items, n, hl1, _, _⟩ := hl _ h
  obtain ⟨hp, g, d, tk, os⟩ := s
  wp_walk using AutoSeq1.wpAny_loadPart' hl1
  exact ⟨plainId_quiet plain_contains_loop _, codeAny_builtin entry_contains_loop (by
    rw [Around.under_plainId plain_contains_loop _]
    exact hrec)⟩
end
/-- an instance != an int -/
theorem ne_KI {prog : Program} {w : World} {A : Around} {Ex : Value → Shared → Prop} {s : Shared} {K : PySem.W.Frag} {C f a : Addr} {oa : Obj} {oda : Option Obj} {i : Int} {tk : Tok} {Q : Value → Shared → Prop} (hu : A.units + 1 < cLine) (X : K.In s.heap) (N : NoNe K C f)
    (hi : PySem.W.subIn K (.type "int") (.ref C) = some false) (I : PySem.W.InstAt s.heap a oa C oda) (h : wpAny (model prog w) A.in1 (call (.ref f) [.ref a, .int i tk]) (fun v s' => ∃ r, v = .bool r ∧ Q (.bool (!r)) s') Ex s) :
    wpAny (model prog w) A (richCompare .NotEq (.ref a) (.int i tk)) Q Ex s := by
  have body : wpAny (model prog w) A.in1 (Builtin.«object.__ne__» ⟨[.ref a, .int i tk], []⟩) (fun fin s' => ∃ r, fin = .done (.ret (.bool (!r))) ∧ Q (.bool (!r)) s') Ex s := by
    unfold Builtin.«object.__ne__»
    refine wpAny_bind (wpAny_of_eq (a := ((Value.ref a : Value), [Value.int i tk])) (by first | rfl | (simp only [slotArgs]; rfl)) ?_)
    refine wpAny_bind (wpAny_cRoomFor hu ?_)
    refine wpAny_bind (PySem.W.ifBound_K X I N.eq N.fn (wpAny_mono h (fun v s' hv => ?_) fun _ _ e => e))
    obtain ⟨r, rfl, q⟩ := hv
    refine wpAny_bind (wpAny_truthy_bool ?_)
    exact wpAny_pure ⟨r, rfl, q⟩
  have below : PySem.W.Looks (model prog w) s.heap (isInstance (.ref a) (.type "object")) true := I.type.andThen (PySem.W.looks_subIn X N.ob)
  have one : wpAny (model prog w) A (tryCompare (.ref a) "__ne__" (.int i tk)) (fun r s' => ∃ t, r = some (.bool (!t)) ∧ Q (.bool (!t)) s') Ex s := by
    unfold tryCompare
    simp only [callSpecialIfBound?, bindSpecialIfBound?]
    refine wpAny_bind (wpAny_holding (wpAny_bind (wpAny_bind (wpAny_bind (I.type.here ((PySem.W.looks_findIn X N.ne).here ?_))))))
    simp only [F.cmp_object.ne.bind]
    refine wpAny_bind (wpAny_askSetting (wpAny_ite ?_))
    have fin : wpAny (model prog w) A (call (.builtin "object.__ne__") ([.ref a] ++ [.int i tk]) >>= fun v => pure (some v)) (fun r s' => ∃ t, r = some (.bool (!t)) ∧ Q (.bool (!t)) s') Ex s := by
      refine wpAny_bind (wpAny_call (codeAny_call_builtin F.cmp_object.ne.plain F.cmpEntry_ne (PySem.W.check_slot F.cmpKind_ne F.cmpSplit_ne below (F.cmpArgs_ne _ _) (wpAny_mono body (fun fin s' hf => ?_) fun _ _ e => e))))
      obtain ⟨r, rfl, q⟩ := hf
      exact wpAny_pure ⟨r, rfl, q⟩
    have fin2 := wpAny_mono fin (Q' := fun a s' => wpAny (model prog w) A (match a with
        | some Value.notImplemented => pure none
        | none => pure none
        | some v => pure (some v)) (fun r s' => ∃ t, r = some (Value.bool !t) ∧ Q (Value.bool !t) s') Ex s') (fun r s' hr => by
      obtain ⟨t, rfl, q⟩ := hr
      exact wpAny_pure ⟨t, rfl, q⟩) fun _ _ e => e
    split
    · exact wpAny_pure (by exact fin2)
    · exact wpAny_tryCatch (wpAny_pure (by exact fin2))
  unfold richCompare
  simp only [oneThing_ref]
  refine wpAny_holding (wpAny_bind (wpAny_cRoomFor (by omega) ?_))
  refine wpAny_bind (I.type.here (wpAny_bind (wpAny_typeOf (typeIs_int s i tk) ?_)))
  split
  · refine wpAny_bind ((PySem.W.looks_subIn X hi).here ?_)
    simp only [Bool.false_eq_true, if_false]
    refine wpAny_bind (wpAny_mono one (fun r s' z => ?_) fun _ _ e => e)
    obtain ⟨t, rfl, hq⟩ := z
    exact wpAny_pure hq
  · refine wpAny_bind (wpAny_pure ?_)
    simp only [Bool.false_eq_true, if_false]
    refine wpAny_bind (wpAny_mono one (fun r s' z => ?_) fun _ _ e => e)
    obtain ⟨t, rfl, hq⟩ := z
    exact wpAny_pure hq
section
variable {X : Cx} {k : Nat} {C f : Addr} {fd : FuncData} {ps : List Str} {sp : Sp} {E : XK} {p : Addr × Obj}
theorem run_own1P {pins : List (Addr × Obj)} {s : Shared} {σ : L2.St} {H : Hp} {Q : VK} {us : List Value} {vs : List V} (F : FnP X.prog X.w X.K X.mg X.base k f fd ps sp) (hr : L2H.RoomH (k + 1) X.A) (hp : p ∈ X.pn) (hb : Binds X.K fd ps [])
    (I : Inv X pins σ H s) (r : Vals vs us) (h : sp vs H Q E) : wpAny (model X.prog X.w) X.A.in1 (call (.ref f) us) (EP X pins σ Q) X.xe s := by
  have hl : (us ++ []).length = ps.length := by
    rw [List.append_nil, ← F.len _ _ _ _ h]
    exact r.length.symm
  have P1 := I.pin p (List.mem_append_left _ hp)
  have hpin : L2H.PinOk X.stack H s p := ⟨P1.1, P1.2.1, fun hm => (List.mem_cons.mp (I.stkSub p.1 hm)).elim P1.2.2.1 P1.2.2.2.1, P1.2.2.2.2⟩
  have hr1 : L2H.RoomH k X.A.in1 := ⟨by have := hr.dp; show X.A.depth + 3 * k + 5 < _; omega, by have := hr.un; show X.A.units + 1 + 16 * k + 200 < _; omega⟩
  refine wpAny_call (codeAny_mono (F.run X.A.in1 X.stack s H ⟨us, []⟩ us vs _ E p hr1 hpin I.env0.in1 (by
    have := hb s us I.kIn hl
    rw [List.append_nil] at this
    exact this) r h) fun r s' hq => ?_)
  cases r with
  | error e => exact hq.elim
  | ok fl =>
    cases fl with
    | ret w => exact I.after hq
    | next => exact False.elim hq
    | brk => exact False.elim hq
    | cont => exact False.elim hq
/-- an instance in a list that holds it behind some ints that are not equal to it -/
def rInP (sp : Sp) (E : XK) (C : Addr) : R2 := fun x y H Q => ∃ a dx fs l, ∃ ys : List V, ∃ j : Nat, x = .ref a ∧ y = .ref l ∧ H a = some (.ins C dx fs) ∧ H l = some (.lst ys) ∧ ys[j]? = some (V.ref a) ∧ (∀ i, i < j → ∃ n : Int, ys[i]? = some (V.int n) ∧ sp [.ref a, .int n] H (fun v H' => v = .bl false ∧ H' = H) E) ∧ Q (.bl true) H
theorem in_ownP (O : OthC X.K C f) (Fk : FnP X.prog X.w X.K X.mg X.base k f fd ps sp) (hr : L2H.RoomH (k + 1) X.A) (hp : p ∈ X.pn) (hb : Binds X.K fd ps []) : OpR X (compareOp .In) (rInP sp E C) := by
  intro pins s σ H x y v u Q I rx ry h
  obtain ⟨a, dx, fs, l, ys, j, rfl, rfl, ea, el, hj, hz, q⟩ := h
  obtain rfl : v = Value.ref a := rx
  obtain rfl : u = Value.ref l := ry
  obtain ⟨z0, its0, n0, r0, e0⟩ := I.hok l _ el
  show wpAny (model X.prog X.w) X.A (do return .bool (← contains (.ref l) (.ref a))) (EP X pins σ Q) X.xe s
  have hT : s.TypeIs (.ref l) "list" := ⟨_, e0, rfl⟩
  have hjl := (List.getElem?_eq_some_iff.mp hj).1
  refine wpAny_bind (wpAny_contains_slot hT F.slot_list_contains (wpAny_mono (GQ.call_here (Q := fun v s' => v = .bool true ∧ Inv X pins σ H s') F.slot_list_contains hT F.entry_list_contains (F.args_list_contains_2 _ _)
    (list_containsT l (.ref a) j (fun s' => Inv X pins σ H s') (fun s' I' => ?_) (fun s' I' => ⟨rfl, I'⟩) I)) (fun v s' hv => ?_) fun _ _ e => e))
  · obtain ⟨z1, its, n, r, e⟩ := I'.hok l _ el
    refine ⟨its.toArray, n, e, by rw [List.size_toArray, ← r.length]; exact hjl, fun i hi hij => ?_⟩
    have k1 : i < ys.length := by rw [r.length]; simpa using hi
    obtain ⟨u, hu, ru⟩ := r.get (List.getElem?_eq_getElem k1)
    have g1 : its[i]? = some its.toArray[i] := by
      have h1' : i < its.length := by simpa using hi
      rw [List.getElem?_eq_getElem h1'] <;> simp
    rw [g1] at hu
    rw [Option.some.inj hu]
    by_cases hE : i = j
    · subst hE
      rw [List.getElem?_eq_getElem k1] at hj
      rw [Option.some.inj hj] at ru
      obtain rfl : u = Value.ref a := ru
      exact eqBool_same ⟨(decide_eq_true rfl).symm, I'⟩
    · obtain ⟨m, em, hsp⟩ := hz i (by omega)
      rw [List.getElem?_eq_getElem k1] at em
      rw [Option.some.inj em] at ru
      obtain ⟨mA, J, _⟩ := ins_get I'.hok ea
      obtain ⟨od, J, _⟩ := J.look
      obtain ⟨t, rfl⟩ := ru
      have own : wpAny (model X.prog X.w) X.A.in1 (call (.ref f) [.ref a, .int m t]) (fun v s' => ∃ r, v = .bool r ∧ ∃ t, Value.bool r = .bool t ∧ (t = decide (i = j) ∧ Inv X pins σ H s')) X.xe s' := by
        refine wpAny_mono (run_own1P (vs := [V.ref a, V.int m]) Fk hr hp hb I' (.cons rfl (.cons ⟨t, rfl⟩ .nil)) hsp) (fun v s2 hv => ?_) fun _ _ e => e
        obtain ⟨x, H2, I2, rv, ex, eH⟩ := hv
        subst ex
        subst eH
        obtain rfl : v = Value.bool false := rv
        exact ⟨false, rfl, false, rfl, (decide_eq_false hE).symm, I2⟩
      have hu1 : X.A.in1.units < cLine := by have := hr.un; show X.A.units + 1 < _; omega
      exact eqBool_any (fun z => nomatch z) (eq_right hu1 I'.kIn O.eq O.fn (typeIs_int s' m t) J O.i F.slot_int_eq (fun Q' q' => call_meets F.slot_int_eq (typeIs_int s' m t) F.entry_int_eq (F.args_int_eq_2 _ _) (dec_int_eq m t a C dx) ⟨J.at_, q'⟩) own)
  · obtain ⟨rfl, I'⟩ := hv
    exact wpAny_truthy_bool (wpAny_pure ⟨.bl true, H, I', rfl, q⟩)
/-- an instance != an int, in a suite -/
def rNeP (sp : Sp) (E : XK) (C : Addr) : R2 := fun x y H Q => ∃ a dx fs, ∃ n : Int, x = .ref a ∧ y = .int n ∧ H a = some (.ins C dx fs) ∧ sp [.ref a, .int n] H (fun v H' => ∃ b, v = .bl b ∧ Q (.bl (!b)) H') E
theorem ne_ownP (N : NoNe X.K C f) (hi : PySem.W.subIn X.K (.type "int") (.ref C) = some false) (Fk : FnP X.prog X.w X.K X.mg X.base k f fd ps sp) (hr : L2H.RoomH (k + 1) X.A) (hp : p ∈ X.pn) (hb : Binds X.K fd ps []) : OpR X (compareOp .NotEq) (rNeP sp E C) := by
  intro pins s σ H x y v u Q I rx ry h
  obtain ⟨a, dx, fs, n, rfl, rfl, ea, q⟩ := h
  obtain rfl : v = Value.ref a := rx
  obtain ⟨t, rfl⟩ := ry
  obtain ⟨mA, J, _⟩ := ins_get I.hok ea
  obtain ⟨od, J, _⟩ := J.look
  show wpAny (model X.prog X.w) X.A (richCompare .NotEq (.ref a) (.int n t)) (EP X pins σ Q) X.xe s
  refine ne_KI (by have := hr.un; omega) I.kIn N hi J (wpAny_mono (run_own1P (vs := [V.ref a, V.int n]) Fk hr hp hb I (.cons rfl (.cons ⟨t, rfl⟩ .nil)) q) (fun v s2 hv => ?_) fun _ _ e => e)
  obtain ⟨x, H2, I2, rv, b, ex, q2⟩ := hv
  subst ex
  obtain rfl : v = Value.bool b := rv
  exact ⟨b, rfl, .bl (!b), H2, I2, rfl, q2⟩
end
/-- all is written: no defaults are left -/
theorem binds_nil {K : PySem.W.Frag} {fd : FuncData} {ps : List Str} {e : List Value} (b : Binds K fd ps e) (v : Vals [] e) : Binds K fd ps [] := by
  cases v
  exact b
section
variable {X : Cx} {CX : CXT} {k : Nat} {C g : Addr} {fd : FuncData} {ps ks : List Str} {sp : Sp} {E : L2.St → XK} {fe e : Expr} {es : List Expr} {kws : List Keyword} {pos : Pos} {tf : TE} {t tk : TA}
/-- f(e, ..), f an instance of C, what is let out wished for at the caller's slots (also in a try body) -/
def tCallO2 (C : Addr) (sp : Sp) (E : L2.St → XK) (tf : TE) (t : TA) : TE := fun σ H Q => tf σ H fun y H1 => ∃ a, y = V.ref a ∧ t σ H1 fun vs H2 => (∃ dx fs, H2 a = some (.ins C dx fs)) ∧ sp (V.ref a :: vs) H2 Q (E σ)
theorem pe_callO2 (hf : PE X fe tf) (c : StX.CallO X.K C g) (F : FnOk X.prog X.w X.K X.mg X.base CX k g fd ps sp) (hr : Room k X.A) (hb : Binds X.K fd ps []) (hx : ∀ σ, PassesAt CX X σ (E σ)) (ha : PA X (e :: es) t)
    (ht : eval (.Call fe (e :: es) [] pos) X.env = (do callWith pos (← eval fe X.env) [] (backTo pos (starEach (e :: es) X.env)) (backToKw pos (keywordEach [] X.env))) := by rfl)
    (he : starEach (e :: es) X.env = (false, eval e X.env) :: starEach es X.env := by rfl) (hpl : (backTo pos (starEach es X.env)).any (·.1) = false := by rfl) : PE X (.Call fe (e :: es) [] pos) (tCallO2 C sp E tf t) := by
  refine ⟨fun pins s σ H Q I h => ?_⟩
  refine Call_ (thn (hf.run pins s σ H _ I h) fun u s1 ⟨y, H1, I1, ry, a, ey, q⟩ => ?_) ht
  subst ey
  obtain rfl : u = Value.ref a := ry
  refine StX.callO_with (thn (ha.run pos pins s1 σ H1 _ I1 q) fun us s2 ⟨vs, H2, I2, r, hi, q2⟩ => ?_) he hpl
  obtain ⟨ox, od, J, hd⟩ := StX.insC_at I2 (.inr hi)
  refine ⟨⟨C, ox, od, J, hd⟩, wpAny_call (PySem.W.kco_code I2.kIn J hd c.at_ c.fn c.fi ?_)⟩
  have r2 : Vals (V.ref a :: vs) (Value.ref a :: us) := .cons rfl r
  have hl : (Value.ref a :: us).length = ps.length := by rw [← r2.length]; exact F.len _ _ _ _ q2
  have b := hb s2 (Value.ref a :: us) I2.kIn (by rw [List.append_nil]; exact hl)
  rw [List.append_nil] at b
  refine codeAny_mono (F.run X.A X.stack s2 H2 ⟨Value.ref a :: us, []⟩ (Value.ref a :: us) (V.ref a :: vs) Q (E σ) hr I2.env0 b r2 q2) fun r s' hq => ?_
  cases r with
  | error er => exact hx σ _ H2 s2 er s' I2 hq
  | ok fl =>
    cases fl with
    | ret u => exact I2.after hq
    | next => exact False.elim hq
    | brk => exact False.elim hq
    | cont => exact False.elim hq
end
end My

/-! My own rules: == of two tuples of instances with an own ==, whatever it answers. -/
namespace My
open PySem PySem.Spec PyProof.Rows L2
section
open PySem PySem.SeqAt
open MeetsSeq MeetsSeq2 MeetsSeq3 SeqRoads2
variable {prog : Program} {w : World} {A : Around} {R : Result → Shared → Prop}
theorem tuple_eqB (l b : Addr) (items items2 : Array Value) (n n2 : Nat) (dd dd2 : Option Addr) (sl sl2 : Array (Option Value)) (t : Nat → Bool) (I : Nat → Shared → Prop)
    (turn : ∀ i (h1 : i < items.size) (h2 : i < items2.size) s, I i s → wpAny (model prog w) A.in1 (eqBool items[i] items2[i]) (fun r s' => r = t i ∧ I (i + 1) s') (fun e s' => R (.error e) s') s)
    (ans : Bool) (hans : ans = true ↔ items.size = items2.size ∧ ∀ i, i < items.size → i < items2.size → t i = true)
    (fin : ∀ i s, I i s → R (.ok (.ret (.bool ans))) s) {s : Shared} (hl1 : s.heap.get? l = some { cls := .type "tuple", dict := dd, data := .seq items n, slots := sl }) (hb1 : s.heap.get? b = some { cls := .type "tuple", dict := dd2, data := .seq items2 n2, slots := sl2 }) (h : I 0 s) :
    wpAny (model prog w) A.in1 (Builtin.«tuple.__eq__» ⟨[.ref l, .ref b], []⟩) (GQ.FinOf prog w A R) (fun e s' => R (.error e) s') s := by
  have f2 := AutoSeq1.sub_tuple_tuple
  have hZ : (items.toList.zip items2.toList).length = min items.size items2.size := by simp
  have h0 := h
  obtain ⟨hp, g, d, tk, os⟩ := s
  wp_walk using wpAny_loadPart' hl1, wpAny_loadPart' hb1, wpAny_forIn_list _ (fun rest b s' => b.1 = none ∧ ∃ i, rest = (items.toList.zip items2.toList).drop i ∧ i ≤ min items.size items2.size ∧ I i s' ∧ ∀ j, j < i → t j = true) _
  case turn =>
    rintro ⟨y, x⟩ rest b s' ⟨hb', i, hz, hi, hI, hall⟩
    have hlt : i < (items.toList.zip items2.toList).length := by
      rcases Nat.lt_or_ge i (items.toList.zip items2.toList).length with h' | h'
      · exact h'
      · rw [List.drop_of_length_le h'] at hz; cases hz
    have hlt' := hlt
    rw [hZ] at hlt'
    have h1 : i < items.size := by omega
    have h2 : i < items2.size := by omega
    rw [List.drop_eq_getElem_cons hlt] at hz
    injection hz with hyx hrest
    have hy : y = items[i] := by have := congrArg Prod.fst hyx; simpa using this
    have hx : x = items2[i] := by have := congrArg Prod.snd hyx; simpa using this
    subst hy hx
    refine wpAny_bind (wpAny_mono (turn i h1 h2 s' hI) (fun r s2 q2 => ?_) fun _ _ x => x)
    obtain ⟨hr, q2⟩ := q2
    cases ht : t i with
    | true =>
      rw [ht] at hr
      subst hr
      wp_walk
      exact ⟨rfl, i + 1, hrest, by omega, q2, fun j hj => by
        by_cases e : j = i
        · rw [e]; exact ht
        · exact hall j (by omega)⟩
    | false =>
      rw [ht] at hr
      subst hr
      have ha : ans = false := by
        cases ha : ans with
        | false => rfl
        | true =>
          have := (hans.mp ha).2 i h1 h2
          rw [ht] at this
          cases this
      have hR := fin _ _ q2
      rw [ha] at hR
      wp_walk
      exact hR
  case fin =>
    rintro ⟨b1, b2⟩ s' ⟨hb', i, hz, hi, hI, hall⟩
    simp only at hb'
    subst hb'
    have hge : min items.size items2.size ≤ i := by
      rcases Nat.lt_or_ge i (items.toList.zip items2.toList).length with h' | h'
      · rw [List.drop_eq_getElem_cons h'] at hz; cases hz
      · exact hZ ▸ h'
    have hR : R (.ok (.ret (.bool ans))) s' := fin _ _ hI
    have ha : ans = (items.size == items2.size) := by
      cases hq : ans with
      | true => exact (beq_iff_eq.mpr (hans.mp hq).1).symm
      | false =>
        refine Eq.symm ?_
        rw [Bool.eq_false_iff]
        intro e
        have e := beq_iff_eq.mp e
        have := hans.mpr ⟨e, fun j h1 h2 => hall j (by omega)⟩
        rw [hq] at this
        cases this
    rw [ha] at hR
    wp_walk
    simpa [Builtin.Tuple.tupleCompareSizes] using hR
  case h =>
    exact ⟨rfl, 0, rfl, Nat.zero_le _, h0, fun j hj => absurd hj (Nat.not_lt_zero _)⟩
end
section
variable {X : Cx} {CX : CXT} {k : Nat} {C f : Addr} {fd : FuncData} {ps : List Str} {sp : Sp} {E : XK}
/-- two tuples of instances; t tells which pairs are equal -/
def rTupB (K : PySem.W.Frag) (C : Addr) (sp : Sp) (E : XK) : R2 := fun x y H Q => ∃ a b, ∃ xs ys : List V, ∃ t : Nat → Bool, ∃ ans : Bool, x = .ref a ∧ y = .ref b ∧ SqT K H a xs ∧ SqT K H b ys ∧
  (∀ (i : Nat) u v, xs[i]? = some u → ys[i]? = some v → ∃ p q dx dy fs gs, u = .ref p ∧ v = .ref q ∧ H p = some (.ins C dx fs) ∧ H q = some (.ins C dy gs) ∧ (p = q → t i = true) ∧ sp [.ref p, .ref q] H (fun w H' => w = .bl (t i) ∧ H' = H) E) ∧
  (ans = true ↔ xs.length = ys.length ∧ ∀ i, i < xs.length → i < ys.length → t i = true) ∧ Q (.bl ans) H
theorem op_tupB (hs : PySem.W.findIn X.K (.ref C) "__eq__" = some (some (.ref f))) (hf : PySem.W.isFn X.K (.ref f) = true) (Fk : FnOk X.prog X.w X.K X.mg X.base CX k f fd ps sp) (hr : Room (k + 1) X.A) (hb : Binds X.K fd ps []) (hx : Passes CX X E) : OpR X (compareOp .Eq) (rTupB X.K C sp E) := by
  intro pins s σ H x y v u Q I rx ry h
  obtain ⟨a, b, xs, ys, t, ans, rfl, rfl, ha, hb', hi, hans, q⟩ := h
  cases rx
  cases ry
  obtain ⟨its, r, e, z⟩ := I.tuple ha
  obtain ⟨its2, r2, e2, z2⟩ := I.tuple hb'
  show wpAny (model X.prog X.w) X.A (richCompare .Eq (.ref a) (.ref b)) (EP X pins σ Q) X.xe s
  obtain ⟨⟨cls, dd, data, sl⟩, ho, hc, n, hd⟩ := id e
  obtain ⟨⟨cls2, dd2, data2, sl2⟩, ho2, hc2, n2, hd2⟩ := id e2
  simp only at hc hd hc2 hd2
  subst hc hd hc2 hd2
  have hu : X.A.units < cLine := hr.units0
  refine wpAny_richCompare_same_room (op := .Eq) ⟨_, ho, rfl⟩ ⟨_, ho2, rfl⟩ F.slot_tuple_eq (GQ.call_here F.slot_tuple_eq ⟨_, ho, rfl⟩ F.entry_tuple_eq (F.args_tuple_eq_2 _ _) ?_) hu
  refine tuple_eqB (R := wants (fun v s' => v ≠ .notImplemented ∧ EP X pins σ Q v s') X.xe) a b its.toArray its2.toArray n n2 dd dd2 sl sl2 t (fun _ s' => Inv X pins σ H s') (fun i h1 h2 s' I' => ?_) ans (by rw [hans, List.size_toArray, List.size_toArray, r.length, r2.length]) (fun i s' I' => ⟨(fun x => nomatch x), .bl ans, H, I', rfl, q⟩) ho ho2 I
  have k1 : i < xs.length := by rw [r.length]; simpa using h1
  have k2 : i < ys.length := by rw [r2.length]; simpa using h2
  obtain ⟨u, hu1, ru⟩ := r.get (List.getElem?_eq_getElem k1)
  obtain ⟨v, hv1, rv⟩ := r2.get (List.getElem?_eq_getElem k2)
  have g1 : its[i]? = some its.toArray[i] := by
    have h1' : i < its.length := by simpa using h1
    rw [List.getElem?_eq_getElem h1'] <;> simp
  have g2 : its2[i]? = some its2.toArray[i] := by
    have h2' : i < its2.length := by simpa using h2
    rw [List.getElem?_eq_getElem h2'] <;> simp
  rw [g1] at hu1
  rw [g2] at hv1
  rw [Option.some.inj hu1, Option.some.inj hv1]
  obtain ⟨p', q', dx, dy, fs, gs, eu, evv, hp, hq, hsame, hsp⟩ := hi i _ _ (List.getElem?_eq_getElem k1) (List.getElem?_eq_getElem k2)
  rw [eu] at ru
  rw [evv] at rv
  obtain rfl : u = Value.ref p' := ru
  obtain rfl : v = Value.ref q' := rv
  by_cases hab : p' = q'
  · subst hab
    exact eqBool_same ⟨(hsame rfl).symm, I'⟩
  · obtain ⟨mA, J, _⟩ := ins_get I'.hok hp
    obtain ⟨mB, J', _⟩ := ins_get I'.hok hq
    obtain ⟨od, J, _⟩ := J.look
    obtain ⟨od', J', _⟩ := J'.look
    obtain ⟨m, hF⟩ := I'.fr
    refine GQ.eqBool_refG hab (PySem.W.cmp_K (op := .Eq) (tb := .ref C) hr.in1.units0 hF I'.ok.mod.kin J J'.type (by simp [PySem.W.notFirst]) hs hf (wpAny_mono (run_own1 (vs := [V.ref p', V.ref q']) Fk hr hb hx I' (.cons rfl (.cons rfl .nil)) hsp) (fun v s2 hv => ?_) fun _ _ e => e))
    obtain ⟨x, H2, I2, rv, ex, eH⟩ := hv
    subst ex
    subst eH
    obtain rfl : v = Value.bool (t i) := rv
    exact ⟨t i, rfl, rfl, I2⟩
end
end My

/-! My own rules: != of two tuples that are equal item by item. -/
namespace My
open PySem PySem.Spec PyProof.Rows L2
section
open PySem PySem.SeqAt
open MeetsSeq MeetsSeq2 MeetsSeq3 SeqRoads2
variable {prog : Program} {w : World} {A : Around} {R : Result → Shared → Prop}
theorem tuple_neG (l b : Addr) (items items2 : Array Value) (n n2 : Nat) (dd dd2 : Option Addr) (sl sl2 : Array (Option Value)) (hsz : items.size = items2.size) (I : Shared → Prop)
    (turn : ∀ i (h1 : i < items.size) (h2 : i < items2.size) s, I s → wpAny (model prog w) A.in1 (eqBool items[i] items2[i]) (fun r s' => r = true ∧ I s') (fun e s' => R (.error e) s') s)
    (fin : ∀ s, I s → R (.ok (.ret (.bool false))) s) {s : Shared} (hl1 : s.heap.get? l = some { cls := .type "tuple", dict := dd, data := .seq items n, slots := sl }) (hb1 : s.heap.get? b = some { cls := .type "tuple", dict := dd2, data := .seq items2 n2, slots := sl2 }) (h : I s) :
    wpAny (model prog w) A.in1 (Builtin.«tuple.__ne__» ⟨[.ref l, .ref b], []⟩) (GQ.FinOf prog w A R) (fun e s' => R (.error e) s') s := by
  have f2 := AutoSeq1.sub_tuple_tuple
  have hZ : (items.toList.zip items2.toList).length = items.size := by simp [hsz]
  have h0 := h
  obtain ⟨hp, g, d, tk, os⟩ := s
  wp_walk using wpAny_loadPart' hl1, wpAny_loadPart' hb1, wpAny_forIn_list _ (fun rest b s' => b.1 = none ∧ ∃ i, rest = (items.toList.zip items2.toList).drop i ∧ i ≤ items.size ∧ I s') _
  case turn =>
    rintro ⟨y, x⟩ rest b s' ⟨hb', i, hz, hi, hI⟩
    have hlt : i < (items.toList.zip items2.toList).length := by
      rcases Nat.lt_or_ge i (items.toList.zip items2.toList).length with h' | h'
      · exact h'
      · rw [List.drop_of_length_le h'] at hz; cases hz
    have h1 : i < items.size := hZ ▸ hlt
    have h2 : i < items2.size := hsz ▸ h1
    rw [List.drop_eq_getElem_cons hlt] at hz
    injection hz with hyx hrest
    have hy : y = items[i] := by have := congrArg Prod.fst hyx; simpa using this
    have hx : x = items2[i] := by have := congrArg Prod.snd hyx; simpa using this
    subst hy hx
    refine wpAny_bind (wpAny_mono (turn i h1 h2 s' hI) (fun r s2 q2 => ?_) fun _ _ x => x)
    obtain ⟨hr, q2⟩ := q2
    subst hr
    wp_walk
    exact ⟨rfl, i + 1, hrest, h1, q2⟩
  case fin =>
    rintro ⟨b1, b2⟩ s' ⟨hb', i, hz, hi, hI⟩
    simp only at hb'
    subst hb'
    have hR : R (.ok (.ret (.bool false))) s' := fin s' hI
    wp_walk
    simpa [Builtin.Tuple.tupleCompareSizes, hsz] using hR
  case h =>
    exact ⟨rfl, 0, rfl, Nat.zero_le _, h0⟩
end
section
variable {X : Cx} {n : Nat} {D : Eqv}
/-- != of two tuples that are equal item by item -/
def rNeG (K : PySem.W.Frag) (D : Eqv) : R2 := fun x y H Q => DTup K D x y H ∧ ∀ H', Ext H H' → Q (.bl false) H'
theorem op_neG (hD : Mon D) (h : EqG X n D) (hr : Room (n + 1) X.A) : OpR X (compareOp .NotEq) (rNeG X.K D) := by
  intro pins s σ H x y v u Q I rx ry hq
  obtain ⟨⟨a, b, xs, ys, rfl, rfl, ha, hb, p⟩, q⟩ := hq
  cases rx
  cases ry
  show wpAny (model X.prog X.w) X.A (richCompare .NotEq (.ref a) (.ref b)) (EP X pins σ Q) X.xe s
  obtain ⟨its, r, e, z⟩ := I.tuple ha
  obtain ⟨its2, r2, e2, z2⟩ := I.tuple hb
  have hsz : its.toArray.size = its2.toArray.size := by rw [List.size_toArray, List.size_toArray, ← r.length, ← r2.length]; exact p.1
  obtain ⟨⟨cls, dd, data, sl⟩, ho, hc, n1, hd⟩ := id e
  obtain ⟨⟨cls2, dd2, data2, sl2⟩, ho2, hc2, n2, hd2⟩ := id e2
  simp only at hc hd hc2 hd2
  subst hc hd hc2 hd2
  refine wpAny_richCompare_same_room (op := .NotEq) ⟨_, ho, rfl⟩ ⟨_, ho2, rfl⟩ F.slot_tuple_ne (GQ.call_here F.slot_tuple_ne ⟨_, ho, rfl⟩ F.entry_tuple_ne (F.args_tuple_ne_2 _ _) ?_) hr.units0
  exact tuple_neG (R := wants (fun v s' => v ≠ .notImplemented ∧ EP X pins σ Q v s') X.xe) a b its.toArray its2.toArray n1 n2 dd dd2 sl sl2 hsz (fun s' => LoopI X pins σ H s') (fun i h1 h2 s' l => turnG hD h ⟨hr, rfl⟩ p r r2 i h1 h2 s' l) (fun s' ⟨H', I', e⟩ => ⟨(fun x => nomatch x), .bl false, H', I', rfl, q H' e⟩) ho ho2 ⟨H, I, Ext.rfl'⟩
end
end My

/-! My own rules: tuple(zip(a, b)) of two tuples. -/
namespace My
open PySem PySem.Spec PyProof.Rows L2 RZ
section
open PySem PySem.W
variable {prog : Program} {w : World} {A : Around} {E : Value → Shared → Prop} {s : Shared}
theorem zipT_item_held {z TI TO T i1 i2 l1 l2 : Addr} {f : Bool} {oT : Obj} {k1 k2 : Nat} {xs ys : Array Value} {x y : Value} {Q : Value → Shared → Prop} (D : ZipApart z TI TO i1 i2 l1 l2)
    (hz : IsZipHeld s.heap z TI TO T f) (hT : s.heap.get? T = some oT) (hTI : IsPair s.heap TI (.ref i1) (.ref i2))
    (h1 : s.heap.IsTupleIter i1 l1 k1) (h2 : s.heap.IsTupleIter i2 l2 k2) (hl1 : s.heap.IsTuple l1 xs) (hl2 : s.heap.IsTuple l2 ys) (hx : xs[k1]? = some x) (hy : ys[k2]? = some y)
    (hQ : ∀ h', IsZipHeld h' z TI TO T true → h'.IsTupleIter i1 l1 (k1 + 1) → h'.IsTupleIter i2 l2 (k2 + 1) → IsPair h' s.heap.objs.size x y → h'.objs.size = s.heap.objs.size + 1 →
      (∀ c o, c ≠ z → c ≠ i1 → c ≠ i2 → s.heap.get? c = some o → h'.get? c = some o) → Q (.ref s.heap.objs.size) { s with heap := h' }) :
    wpAny (model prog w) A (Builtin.«zip.__next__» ⟨[.ref z], []⟩) (fun fin s' => ∃ v, fin = .done (.ret v) ∧ Q v s') E s := by
  show wpAny _ _ (field (.ref z) 2 >>= _) _ _ _
  refine wpAny_bind (wpAny_field hz rfl (x := .bool false) rfl ?_)
  show wpAny _ _ (field (.ref z) 3 >>= _) _ _ _
  refine wpAny_bind (wpAny_field hz rfl (x := .ref TI) rfl ?_)
  refine wpAny_bind (wpAny_seqItems hTI rfl ?_)
  show wpAny _ _ (Builtin.SmallTypes.ownedTupleIsFree (.ref z) >>= _) _ _ _
  refine wpAny_bind (wpAny_tupleHeld_zip hz hT fun h₁ hz₁ hs₁ => ?_)
  simp only [Bool.false_eq_true, if_false]
  refine wpAny_bind ?_
  rw [← Array.forIn_toList]
  simp only [List.forIn_cons, List.forIn_nil]
  refine wpAny_bind (wpAny_bind (wpAny_holding ?_))
  show wpAny _ _ (Builtin.SmallTypes.nextOf (.ref i1) >>= _) _ _ _
  refine wpAny_bind (nextOf_tuple_item (s := { s with heap := h₁ }) (h1.extBut hs₁.extBut D.i1z) (hl1.extBut hs₁.extBut D.l1z) hx fun h₂ h1₂ hs₂ => wpAny_pure ?_)
  refine wpAny_pure ?_
  refine wpAny_bind (wpAny_bind (wpAny_holding ?_))
  show wpAny _ _ (Builtin.SmallTypes.nextOf (.ref i2) >>= _) _ _ _
  refine wpAny_bind (nextOf_tuple_item (s := { s with heap := h₂ }) ((h2.extBut hs₁.extBut D.i2z).extBut hs₂.extBut D.i12.symm) ((hl2.extBut hs₁.extBut D.l2z).extBut hs₂.extBut D.l2i1) hy fun h₃ h2₃ hs₃ => wpAny_pure ?_)
  refine wpAny_pure (wpAny_pure ?_)
  show wpAny _ _ (newTuple [x, y] >>= _) _ _ _
  refine wpAny_bind (wpAny_newTuple ?_)
  have hsz : h₃.objs.size = s.heap.objs.size := by rw [hs₃.1, hs₂.1, hs₁.1]
  have hz₃ : IsZipHeld h₃ z TI TO T true := hs₃.extBut _ _ D.i2z.symm (hs₂.extBut _ _ D.i1z.symm hz₁)
  have hk : ∀ c o, c ≠ z → c ≠ i1 → c ≠ i2 → s.heap.get? c = some o → h₃.get? c = some o := fun c o c1 c2 c3 e => hs₃.extBut _ _ c3 (hs₂.extBut _ _ c2 (hs₁.extBut _ _ c1 e))
  have h1₃ : h₃.IsTupleIter i1 l1 (k1 + 1) := h1₂.extBut hs₃.extBut D.i12
  refine wpAny_pure ⟨_, rfl, ?_⟩
  show Q (.ref h₃.objs.size) _
  have hp : IsPair (h₃.push { cls := .type "tuple", data := .seq #[x, y] }) h₃.objs.size x y := Heap.get?_push_size _ rfl
  have hz4 : (h₃.push { cls := .type "tuple", data := .seq #[x, y] }).objs.size = h₃.objs.size + 1 := Heap.size_push ..
  rw [hsz] at hp hz4 ⊢
  exact hQ _ (Heap.get?_push_of_some _ hz₃) (h1₃.at fun o e => Heap.get?_push_of_some _ e) (h2₃.at fun o e => Heap.get?_push_of_some _ e) hp hz4 fun c o c1 c2 c3 e => Heap.get?_push_of_some _ (hk c o c1 c2 c3 e)
theorem zipT_end_held {z TI TO T i1 i2 l1 l2 : Addr} {f : Bool} {oT : Obj} {k1 k2 : Nat} {xs ys : Array Value} {Q : Fin → Shared → Prop} (hh : A.handled = none) (D : ZipApart z TI TO i1 i2 l1 l2)
    (hz : IsZipHeld s.heap z TI TO T f) (hT : s.heap.get? T = some oT) (hTI : IsPair s.heap TI (.ref i1) (.ref i2))
    (h1 : s.heap.IsTupleIter i1 l1 k1) (h2 : s.heap.IsTupleIter i2 l2 k2) (hl1 : s.heap.IsTuple l1 xs) (hl2 : s.heap.IsTuple l2 ys) (hend : xs[k1]? = none ∨ ys[k2]? = none)
    (hE : ∀ h' e, (∀ c o, c ≠ z → c ≠ i1 → c ≠ i2 → s.heap.get? c = some o → h'.get? c = some o) → (∃ o, h'.get? e = some o ∧ o.cls = .type "StopIteration") → E (.ref e) { s with heap := h' }) :
    wpAny (model prog w) A (Builtin.«zip.__next__» ⟨[.ref z], []⟩) Q E s := by
  show wpAny _ _ (field (.ref z) 2 >>= _) _ _ _
  refine wpAny_bind (wpAny_field hz rfl (x := .bool false) rfl ?_)
  show wpAny _ _ (field (.ref z) 3 >>= _) _ _ _
  refine wpAny_bind (wpAny_field hz rfl (x := .ref TI) rfl ?_)
  refine wpAny_bind (wpAny_seqItems hTI rfl ?_)
  show wpAny _ _ (Builtin.SmallTypes.ownedTupleIsFree (.ref z) >>= _) _ _ _
  refine wpAny_bind (wpAny_tupleHeld_zip hz hT fun h₁ hz₁ hs₁ => ?_)
  simp only [Bool.false_eq_true, if_false]
  refine wpAny_bind ?_
  rw [← Array.forIn_toList]
  simp only [List.forIn_cons, List.forIn_nil]
  refine wpAny_bind (wpAny_bind (wpAny_holding ?_))
  show wpAny _ _ (Builtin.SmallTypes.nextOf (.ref i1) >>= _) _ _ _
  cases hx : xs[k1]? with
  | none =>
    refine wpAny_bind (nextOf_tuple_end (s := { s with heap := h₁ }) hh (h1.extBut hs₁.extBut D.i1z) (hl1.extBut hs₁.extBut D.l1z) hx fun h₂ e hs₂ he => ?_)
    exact hE h₂ e (fun c o c1 c2 _ x => hs₂ _ _ c2 (hs₁.extBut _ _ c1 x)) he
  | some x =>
    have hy : ys[k2]? = none := by rcases hend with h | h; rw [hx] at h; cases h; exact h
    refine wpAny_bind (nextOf_tuple_item (s := { s with heap := h₁ }) (h1.extBut hs₁.extBut D.i1z) (hl1.extBut hs₁.extBut D.l1z) hx fun h₂ h1₂ hs₂ => wpAny_pure ?_)
    refine wpAny_pure ?_
    refine wpAny_bind (wpAny_bind (wpAny_holding ?_))
    show wpAny _ _ (Builtin.SmallTypes.nextOf (.ref i2) >>= _) _ _ _
    refine wpAny_bind (nextOf_tuple_end (s := { s with heap := h₂ }) hh ((h2.extBut hs₁.extBut D.i2z).extBut hs₂.extBut D.i12.symm) ((hl2.extBut hs₁.extBut D.l2z).extBut hs₂.extBut D.l2i1) hy fun h₃ e hs₃ he => ?_)
    exact hE h₃ e (fun c o c1 c2 c3 x => hs₃ _ _ c3 (hs₂.extBut _ _ c2 (hs₁.extBut _ _ c1 x))) he
theorem pyNext_zipT_item_held {z TI TO T i1 i2 l1 l2 : Addr} {f : Bool} {oT : Obj} {k1 k2 : Nat} {xs ys : Array Value} {x y : Value} {Q : Option Value → Shared → Prop} (D : ZipApart z TI TO i1 i2 l1 l2)
    (hz : IsZipHeld s.heap z TI TO T f) (hT : s.heap.get? T = some oT) (hTI : IsPair s.heap TI (.ref i1) (.ref i2))
    (h1 : s.heap.IsTupleIter i1 l1 k1) (h2 : s.heap.IsTupleIter i2 l2 k2) (hl1 : s.heap.IsTuple l1 xs) (hl2 : s.heap.IsTuple l2 ys) (hx : xs[k1]? = some x) (hy : ys[k2]? = some y)
    (hQ : ∀ h', IsZipHeld h' z TI TO T true → h'.IsTupleIter i1 l1 (k1 + 1) → h'.IsTupleIter i2 l2 (k2 + 1) → IsPair h' s.heap.objs.size x y → h'.objs.size = s.heap.objs.size + 1 →
      (∀ c o, c ≠ z → c ≠ i1 → c ≠ i2 → s.heap.get? c = some o → h'.get? c = some o) → Q (some (.ref s.heap.objs.size)) { s with heap := h' }) :
    wpAny (model prog w) A (pyNext (.ref z)) Q E s := by
  have hTy : s.TypeIs (.ref z) "zip" := ⟨_, hz, rfl⟩
  unfold pyNext
  exact wpAny_bind (wpAny_attempt (wpAny_callSpecial?_slot (name := Str.ofString "__next__") hTy F.slot_zip_next
    (wpAny_call_entry F.slot_zip_next hTy F.entry_zip_next
      (zipT_item_held D hz hT hTI h1 h2 hl1 hl2 hx hy fun h' a1 a3 a4 a5 a6 a7 => wpAny_pure (hQ h' a1 a3 a4 a5 a6 a7)) (F.args_zip_next_1 _))))
theorem pyNext_zipT_end_held {z TI TO T i1 i2 l1 l2 : Addr} {f : Bool} {oT : Obj} {k1 k2 : Nat} {xs ys : Array Value} {Q : Option Value → Shared → Prop} (hh : A.handled = none) (D : ZipApart z TI TO i1 i2 l1 l2)
    (hz : IsZipHeld s.heap z TI TO T f) (hT : s.heap.get? T = some oT) (hTI : IsPair s.heap TI (.ref i1) (.ref i2))
    (h1 : s.heap.IsTupleIter i1 l1 k1) (h2 : s.heap.IsTupleIter i2 l2 k2) (hl1 : s.heap.IsTuple l1 xs) (hl2 : s.heap.IsTuple l2 ys) (hend : xs[k1]? = none ∨ ys[k2]? = none)
    (hQ : ∀ h', (∀ c o, c ≠ z → c ≠ i1 → c ≠ i2 → s.heap.get? c = some o → h'.get? c = some o) → Q none { s with heap := h' }) : wpAny (model prog w) A (pyNext (.ref z)) Q E s := by
  have hTy : s.TypeIs (.ref z) "zip" := ⟨_, hz, rfl⟩
  unfold pyNext
  refine wpAny_bind (wpAny_attempt (wpAny_callSpecial?_slot (name := Str.ofString "__next__") hTy F.slot_zip_next
    (wpAny_call_entry F.slot_zip_next hTy F.entry_zip_next (zipT_end_held hh D hz hT hTI h1 h2 hl1 hl2 hend fun h' e hk he => ?_) (F.args_zip_next_1 _))))
  obtain ⟨o, ho, hc⟩ := he
  refine wpAny_bind (wpAny_isInstance (T := "StopIteration") (b := true) ⟨o, ho, hc⟩ isSubtype_stop ?_)
  exact wpAny_pure (hQ _ hk)
end
/-- the zip at turn i; the list that takes its tuples is at d -/
def ZSt (h : Heap) (z TI TO i1 i2 a b d : Addr) (i : Nat) : Prop := IsPair h TI (.ref i1) (.ref i2) ∧ h.IsTupleIter i1 a i ∧ h.IsTupleIter i2 b i ∧
  ((IsZip h z TI TO .none ∧ ∃ x y, IsPair h TO x y) ∨ ∃ T f oT, IsZipHeld h z TI TO T f ∧ h.get? T = some oT ∧ T ≠ z ∧ T ≠ i1 ∧ T ≠ i2 ∧ T ≠ d)
section
open PySem PySem.W
variable {prog : Program} {w : World} {A : Around} {E : Value → Shared → Prop} {s : Shared}
theorem zst_item {z TI TO i1 i2 a b d : Addr} {i : Nat} {xs ys : Array Value} {u v : Value} {Q : Option Value → Shared → Prop} (D : ZipApart z TI TO i1 i2 a b) (st : ZSt s.heap z TI TO i1 i2 a b d i) (p : s.heap.IsTuple a xs) (p2 : s.heap.IsTuple b ys) (hx : xs[i]? = some u) (hy : ys[i]? = some v) (hd : d < s.heap.objs.size)
    (hQ : ∀ h', ZSt h' z TI TO i1 i2 a b d (i + 1) → IsPair h' s.heap.objs.size u v → h'.objs.size = s.heap.objs.size + 1 → (∀ c o, c ≠ z → c ≠ TO → c ≠ i1 → c ≠ i2 → s.heap.get? c = some o → h'.get? c = some o) → Q (some (.ref s.heap.objs.size)) { s with heap := h' }) :
    wpAny (model prog w) A (pyNext (.ref z)) Q E s := by
  obtain ⟨hTI, h1, h2, hz⟩ := st
  have lt : ∀ {c o}, s.heap.get? c = some o → s.heap.objs.size ≠ c := fun e => Nat.ne_of_gt (Heap.lt_size e)
  have n1 : s.heap.objs.size ≠ i1 := let ⟨_, e, _⟩ := h1; lt e
  have n2 : s.heap.objs.size ≠ i2 := let ⟨_, e, _⟩ := h2; lt e
  rcases hz with ⟨hz, x, y, hTO⟩ | ⟨T, f, oT, hz, hT, r1, r2, r3, r4⟩
  · refine pyNext_zipT_item D hz hTI hTO h1 h2 p p2 hx hy fun h' a1 a2 a3 a4 a5 a6 hk => ?_
    exact hQ h' ⟨hk _ _ D.TIz D.TITO D.TIi1 D.TIi2 hTI, a3, a4, .inr ⟨s.heap.objs.size, false, _, a1, a5, lt hz, n1, n2, Nat.ne_of_gt hd⟩⟩ a5 a6 hk
  · refine pyNext_zipT_item_held D hz hT hTI h1 h2 p p2 hx hy fun h' a1 a3 a4 a5 a6 hk => ?_
    exact hQ h' ⟨hk _ _ D.TIz D.TIi1 D.TIi2 hTI, a3, a4, .inr ⟨T, true, oT, a1, hk _ _ r1 r2 r3 hT, r1, r2, r3, r4⟩⟩ a5 a6 fun c o c1 _ c3 c4 e => hk c o c1 c3 c4 e
theorem zst_done {z TI TO i1 i2 a b d : Addr} {i : Nat} {xs ys : Array Value} {Q : Option Value → Shared → Prop} (hh : A.handled = none) (D : ZipApart z TI TO i1 i2 a b) (st : ZSt s.heap z TI TO i1 i2 a b d i) (p : s.heap.IsTuple a xs) (p2 : s.heap.IsTuple b ys) (he : xs[i]? = none ∨ ys[i]? = none)
    (hQ : ∀ h', (∀ c o, c ≠ z → c ≠ TO → c ≠ i1 → c ≠ i2 → s.heap.get? c = some o → h'.get? c = some o) → Q none { s with heap := h' }) :
    wpAny (model prog w) A (pyNext (.ref z)) Q E s := by
  obtain ⟨hTI, h1, h2, hz⟩ := st
  rcases hz with ⟨hz, x, y, hTO⟩ | ⟨T, f, oT, hz, hT, r1, r2, r3, r4⟩
  · exact pyNext_zipT_end hh D hz hTI hTO h1 h2 p p2 he fun h' hk => hQ h' hk
  · exact pyNext_zipT_end_held hh D hz hT hTI h1 h2 p p2 he fun h' hk => hQ h' fun c o c1 _ c3 c4 e => hk c o c1 c3 c4 e
theorem ZSt.on {h h' : Heap} {z TI TO i1 i2 a b d : Addr} {i : Nat} (st : ZSt h z TI TO i1 i2 a b d i) (D : ZipApart z TI TO i1 i2 a b) (hd : d ≠ z ∧ d ≠ TI ∧ d ≠ TO ∧ d ≠ i1 ∧ d ≠ i2) (k : ∀ c o, c ≠ d → h.get? c = some o → h'.get? c = some o) : ZSt h' z TI TO i1 i2 a b d i := by
  obtain ⟨hTI, h1, h2, hz⟩ := st
  obtain ⟨d1, d2, d3, d4, d5⟩ := hd
  refine ⟨k _ _ (Ne.symm d2) hTI, h1.at fun o e => k _ o (Ne.symm d4) e, h2.at fun o e => k _ o (Ne.symm d5) e, ?_⟩
  rcases hz with ⟨hz, x, y, hTO⟩ | ⟨T, f, oT, hz, hT, r1, r2, r3, r4⟩
  · exact .inl ⟨k _ _ (Ne.symm d1) hz, x, y, k _ _ (Ne.symm d3) hTO⟩
  · exact .inr ⟨T, f, oT, k _ _ (Ne.symm d1) hz, k _ _ r4 hT, r1, r2, r3, r4⟩
end
/-- the pairs that stand so far -/
def Zs (H : Hp) (xs ys : List V) (ts : List Addr) : Prop := ∀ (j : Nat) t x y, ts[j]? = some t → xs[j]? = some x → ys[j]? = some y → H t = some (.tup [x, y])
theorem Zs.on {H H' : Hp} {xs ys : List V} {ts : List Addr} (r : Zs H xs ys ts) (s : Same H H') : Zs H' xs ys ts := fun j t x y h1 h2 h3 => s _ _ (r j t x y h1 h2 h3)
theorem sqT_on {K : PySem.W.Frag} {H H' : Hp} {a : Addr} {xs : List V} (e : Same H H') (h : SqT K H a xs) : SqT K H' a xs := by
  rcases h with (h | ⟨o, h⟩) | h
  · exact .inl (.inl (e _ _ h))
  · exact .inl (.inr ⟨o, e _ _ h⟩)
  · exact .inr h
theorem nolen_zip : typeLookup (.type "zip") "__len__" = pure none := by rw [typeLookup_type, builtinLookup_eq_fast]; kernel_rfl
theorem hint_zip : typeLookup (.type "zip") "__length_hint__" = pure none := by rw [typeLookup_type, builtinLookup_eq_fast]; kernel_rfl
section
variable {X : Cx} {pins : List (Addr × Obj)} {σ : L2.St}
theorem ext_zip {A : Around} {R : Result → Shared → Prop} {S z TI TO i1 i2 a b : Addr} {res : Value} (hh : A.in1.handled = none) (D : ZipApart z TI TO i1 i2 a b) (hS : S ≠ z ∧ S ≠ TI ∧ S ≠ TO ∧ S ≠ i1 ∧ S ≠ i2) {xs ys : List V} (hl : xs.length = ys.length) (hn : xs.length ≤ sizeLine) :
    ∀ (k i : Nat) (s : Shared) (H : Hp) (acc : Array Value) (c : Nat) (ts : List Addr), xs.length - i = k → i ≤ xs.length → Inv X pins σ H s → SqT X.K H a xs → SqT X.K H b ys → ZSt s.heap z TI TO i1 i2 a b S i →
      (∀ c ∈ [S, z, TO, i1, i2], FpOk X pins H c ∧ c < s.heap.objs.size) → s.heap.get? S = some { cls := .type "list", dict := none, data := .seq acc c, slots := #[] } → acc.toList = ts.map Value.ref → ts.length = i → Zs H xs ys ts →
      (∀ (s' : Shared) (H' : Hp) (acc' : Array Value) (c' : Nat) (ts' : List Addr), Inv X pins σ H' s' → Same H H' → s'.heap.get? S = some { cls := .type "list", dict := none, data := .seq acc' c', slots := #[] } → acc'.toList = ts'.map Value.ref → ts'.length = xs.length → Zs H' xs ys ts' → R (.ok (.ret res)) s') →
      codeAny (model X.prog X.w) A (.builtin "list.extend.loop" ⟨[.ref S, .ref z, res], []⟩) R s := by
  intro k
  induction k with
  | zero =>
    intro i s H acc c ts hk hi I qa qb st hf hL ha ht hz hR
    have hin : i = xs.length := by omega
    subst hin
    refine codeAny_builtin F.entry_extend_loop ?_
    rw [Around.under_plainId F.plain_extend_loop _]
    show wpAny _ A.in1 (pyNext (.ref z) >>= _) _ _ s
    obtain ⟨its, rv, p, _⟩ := I.tuple qa
    obtain ⟨its2, rv2, p2, _⟩ := I.tuple qb
    have l1 := rv.length
    refine wpAny_bind (zst_done hh D st p p2 (.inl (by simp; omega)) fun h' hk' => wpAny_pure ?_)
    exact hR { s with heap := h' } H acc c ts (I.turnedL (t' := s.toks) (ch := [z, TO, i1, i2]) (fun c o hb q => hk' c o (fun e => hb (by simp [e])) (fun e => hb (by simp [e])) (fun e => hb (by simp [e])) (fun e => hb (by simp [e])) q)
        (fun c hc => (hf c (List.mem_cons_of_mem _ hc)).1)) (fun _ _ e => e) (hk' S _ hS.1 hS.2.2.1 hS.2.2.2.1 hS.2.2.2.2 hL) ha ht hz
  | succ k ih =>
    intro i s H acc c ts hk hi I qa qb st hf hL ha ht hz hR
    have hlt : i < xs.length := by omega
    refine codeAny_builtin F.entry_extend_loop ?_
    rw [Around.under_plainId F.plain_extend_loop _]
    show wpAny _ A.in1 (pyNext (.ref z) >>= _) _ _ s
    obtain ⟨its, rv, p, _⟩ := I.tuple qa
    obtain ⟨its2, rv2, p2, _⟩ := I.tuple qb
    have hx : xs[i]? = some xs[i] := List.getElem?_eq_getElem hlt
    have hy : ys[i]? = some (ys[i]'(by omega)) := List.getElem?_eq_getElem (by omega)
    obtain ⟨u, hu, ru⟩ := rv.get hx
    obtain ⟨u2, hu2, ru2⟩ := rv2.get hy
    have fl : ∀ c ∈ [S, z, TO, i1, i2], c ≠ s.heap.objs.size := fun c hc => Nat.ne_of_lt (hf c hc).2
    have hsz0 : acc.size = i := by rw [← Array.length_toList, ha, List.length_map, ht]
    refine wpAny_bind (zst_item D st p p2 (u := u) (v := u2) (by simpa using hu) (by simpa using hu2) (hf S List.mem_cons_self).2 fun h' st' hT hsz hk' => ?_)
    have hL' := hk' S _ hS.1 hS.2.2.1 hS.2.2.2.1 hS.2.2.2.2 hL
    show wpAny _ A.in1 (updateSeq S (·.push (.ref s.heap.objs.size)) >>= _) _ _ _
    refine wpAny_bind ?_
    have new : ObjOk X.prog X.w (upd H s.heap.objs.size (.tup [xs[i], ys[i]'(by omega)])) h' s.heap.objs.size (.tup [xs[i], ys[i]'(by omega)]) :=
      ⟨by show 2 ≤ sizeLine; decide, [u, u2], .cons ru (.cons ru2 .nil), ⟨_, hT, rfl, _, rfl⟩⟩
    have I1 : Inv X pins σ (upd H s.heap.objs.size (.tup [xs[i], ys[i]'(by omega)])) { s with heap := h' } :=
      I.turnedNew (t' := s.toks) (ch := [z, TO, i1, i2]) (fun c o hb q => hk' c o (fun e => hb (by simp [e])) (fun e => hb (by simp [e])) (fun e => hb (by simp [e])) (fun e => hb (by simp [e])) q) (fun c hc => (hf c (List.mem_cons_of_mem _ hc)).1) (Nat.le_refl _) new
    have hnone : H s.heap.objs.size = none := I.hok.fresh (Nat.le_refl _)
    have sm : Same H (upd H s.heap.objs.size (.tup [xs[i], ys[i]'(by omega)])) := same_upd hnone
    have hf1 : ∀ c ∈ [S, z, TO, i1, i2], FpOk X pins (upd H s.heap.objs.size (.tup [xs[i], ys[i]'(by omega)])) c := fun c hc => by
      obtain ⟨q, r⟩ := (hf c hc).1
      exact ⟨by rw [upd_ne (fl c hc)]; exact q, r⟩
    refine wpAny_updateSeq hL' rfl (wpAny_pure ⟨plainId_quiet F.plain_extend_loop _, ih (i + 1) _ (upd H s.heap.objs.size (.tup [xs[i], ys[i]'(by omega)])) (acc.push (.ref s.heap.objs.size)) _ (ts ++ [s.heap.objs.size]) (by omega) hlt
      (I1.turnedL (t' := s.toks) (ch := [S]) (fun c o hb q => (Heap.get?_update_other _ _ (fun e : S = c => hb (by simp [e]))).trans q) (fun c hc => hf1 c (by rw [List.mem_singleton.mp hc]; exact List.mem_cons_self)))
      (sqT_on sm qa) (sqT_on sm qb) (st'.on D hS fun c o hc q => (Heap.get?_update_other _ _ (Ne.symm hc)).trans q) (fun c hc => ⟨hf1 c hc, ?_⟩) (Heap.get?_update_self _ hL' rfl) (by rw [Array.toList_push, ha, List.map_append]; rfl) (by rw [List.length_append, ht]; rfl) (fun j t x y h1 h2 h3 => ?_) fun s' H' acc' c' ts' I' sm' => hR s' H' acc' c' ts' I' (sm.trans sm')⟩)
      (by rw [hsz0]; omega) (by show (acc.push _).size ≤ sizeLine + 1; rw [Array.size_push, hsz0]; omega)
    · have h1 := (hf c hc).2
      show c < ((h'.update S _).objs.size)
      rw [Heap.size_update, hsz]
      exact Nat.lt_succ_of_lt h1
    · by_cases hj : j < ts.length
      · rw [List.getElem?_append_left hj] at h1
        exact sm _ _ (hz j t x y h1 h2 h3)
      · have hj' := (List.getElem?_eq_some_iff.mp h1).1
        rw [List.length_append, List.length_singleton] at hj'
        have e1 : j = i := by omega
        subst e1
        rw [List.getElem?_append_right (by omega), show j - ts.length = 0 by omega] at h1
        rw [hx] at h2
        rw [hy] at h3
        have e1 : s.heap.objs.size = t := Option.some.inj h1
        rw [← Option.some.inj h2, ← Option.some.inj h3, ← e1]
        exact upd_same

theorem collect_zip {A : Around} {E : Value → Shared → Prop} {s : Shared} {H : Hp} {z TI TO i1 i2 a b : Addr} {x0 y0 : Value} {xs ys : List V} {Q : List Value → Shared → Prop} (hh : A.handled = none) (D : ZipApart z TI TO i1 i2 a b) (hl : xs.length = ys.length) (hn : xs.length ≤ sizeLine)
    (I : Inv X pins σ H s) (qa : SqT X.K H a xs) (qb : SqT X.K H b ys) (hz : IsZip s.heap z TI TO .none) (hTI : IsPair s.heap TI (.ref i1) (.ref i2)) (hTO : IsPair s.heap TO x0 y0) (h1 : s.heap.IsTupleIter i1 a 0) (h2 : s.heap.IsTupleIter i2 b 0)
    (hf : ∀ c ∈ [z, TO, i1, i2], FpOk X pins H c) (hQ : ∀ (s' : Shared) (H' : Hp) (ts : List Addr), Inv X pins σ H' s' → Same H H' → ts.length = xs.length → Zs H' xs ys ts → Q (ts.map Value.ref) s') :
    wpAny (model X.prog X.w) A (collect (.ref z)) Q E s := by
  obtain ⟨oi1, ho1, hc1, hd1⟩ := id h1
  obtain ⟨oi2, ho2, hc2, hd2⟩ := id h2
  have lt : ∀ {c o}, s.heap.get? c = some o → s.heap.objs.size ≠ c := fun e => Nat.ne_of_gt (Heap.lt_size e)
  have hS : s.heap.objs.size ≠ z ∧ s.heap.objs.size ≠ TI ∧ s.heap.objs.size ≠ TO ∧ s.heap.objs.size ≠ i1 ∧ s.heap.objs.size ≠ i2 := ⟨lt hz, lt hTI, lt hTO, lt ho1, lt ho2⟩
  have hSf : FpOk X pins H s.heap.objs.size := I.fpOk (Nat.le_refl _) (I.hok.fresh (Nat.le_refl _))
  unfold collect
  refine wpAny_bind (wpAny_runValue (codeAny_builtin F.entry_proto_collect ?_))
  rw [Around.under_plainId F.plain_proto_collect _]
  show wpAny _ A.in1 (newList [] >>= fun l' => again (.builtin "list.__iadd__" ⟨[l', .ref z], []⟩)) _ _ s
  refine wpAny_bind (wpAny_newObj_type ?_)
  refine wpAny_pure ⟨plainId_quiet F.plain_list_iadd _, codeAny_builtin F.entry_list_iadd ?_⟩
  rw [Around.under_plainId F.plain_list_iadd _]
  have hz1 : IsZip (s.heap.push { cls := .type "list", data := .seq ([] : List Value).toArray }) z TI TO .none := Heap.get?_push_of_some _ hz
  have hT1 : ({ s with heap := s.heap.push { cls := .type "list", data := .seq ([] : List Value).toArray } } : Shared).TypeIs (.ref z) "zip" := ⟨_, hz1, rfl⟩
  show wpAny _ A.in1 (Builtin.List.listExtendWith (.ref s.heap.objs.size) (.ref z) (.ref s.heap.objs.size)) _ _ _
  unfold Builtin.List.listExtendWith
  refine wpAny_bind (wpAny_typeOf hT1 ?_)
  have e1 : Builtin.List.listSameRef (.ref s.heap.objs.size) (.ref z) = false := by simp [Builtin.List.listSameRef, hS.1]
  have e2 : (Value.type "zip" == Value.type "list") = false := by decide
  have e3 : (Value.type "zip" == Value.type "tuple") = false := by decide
  simp only [e1, e2, e3, Bool.or_false, Bool.false_eq_true, if_false]
  refine wpAny_bind (wpAny_pyIter_zip (s := { s with heap := s.heap.push { cls := .type "list", data := .seq ([] : List Value).toArray } }) hz1 ?_)
  refine wpAny_bind (wpAny_holding ?_)
  unfold Builtin.List.listLengthHint
  refine wpAny_bind (wpAny_specialOf hT1 nolen_zip ?_)
  show wpAny _ A.in1 (specialOf (Value.ref z) (Str.ofString "__length_hint__") >>= _) _ _ _
  refine wpAny_bind (wpAny_specialOf hT1 hint_zip ?_)
  refine wpAny_pure ?_
  show wpAny _ A.in1 (rule "list.extend.makes-room" >>= fun _ => Builtin.List.listTouch (.ref s.heap.objs.size) >>= fun _ =>
    again (.builtin "list.extend.loop" ⟨[.ref s.heap.objs.size, .ref z, .ref s.heap.objs.size], []⟩)) _ _ _
  refine wpAny_bind (wpAny_rule ?_)
  have hS₁ : (s.heap.push { cls := .type "list", data := .seq ([] : List Value).toArray }).get? s.heap.objs.size = some { cls := .type "list", data := .seq ([] : List Value).toArray } := Heap.get?_push_size _ rfl
  refine wpAny_bind ?_
  show wpAny _ A.in1 (updateSeq s.heap.objs.size (·.push .none) >>= fun _ => updateSeq s.heap.objs.size (·.pop)) _ _ _
  refine wpAny_bind (wpAny_updateSeq hS₁ rfl ?_)
  have hS₂ := Heap.get?_update_self (Obj.mapSeq (·.push Value.none)) hS₁ rfl
  refine wpAny_updateSeq hS₂ rfl ?_
  have hS₃ := Heap.get?_update_self (Obj.mapSeq (·.pop)) hS₂ rfl
  have oth : ∀ b o, b ≠ s.heap.objs.size → s.heap.get? b = some o →
      (((s.heap.push { cls := .type "list", data := .seq ([] : List Value).toArray }).update s.heap.objs.size (Obj.mapSeq (·.push Value.none))).update s.heap.objs.size (Obj.mapSeq (·.pop))).get? b = some o :=
    fun b o hb e => (Heap.get?_update_other _ _ (Ne.symm hb)).trans ((Heap.get?_update_other _ _ (Ne.symm hb)).trans (Heap.get?_push_of_some _ e))
  have I1 : Inv X pins σ H { s with heap := ((s.heap.push { cls := .type "list", data := .seq ([] : List Value).toArray }).update s.heap.objs.size (Obj.mapSeq (·.push Value.none))).update s.heap.objs.size (Obj.mapSeq (·.pop)) } :=
    I.turnedL (t' := s.toks) (ch := [s.heap.objs.size]) (fun b o hb e => oth b o (fun q => hb (by simp [q])) e) (fun c hc => by rw [List.mem_singleton.mp hc]; exact hSf)
  have hsz : (((s.heap.push { cls := .type "list", data := .seq ([] : List Value).toArray }).update s.heap.objs.size (Obj.mapSeq (·.push Value.none))).update s.heap.objs.size (Obj.mapSeq (·.pop))).objs.size = s.heap.objs.size + 1 := by
    rw [Heap.size_update, Heap.size_update, Heap.size_push]
  refine wpAny_pure ⟨plainId_quiet F.plain_extend_loop _, ext_zip (X := X) (pins := pins) (σ := σ) (A := A) hh D hS hl hn xs.length 0 _ H _ _ [] (by omega) (Nat.zero_le _) I1 qa qb
    ⟨oth _ _ (Ne.symm hS.2.1) hTI, ⟨oi1, oth _ _ (Ne.symm hS.2.2.2.1) ho1, hc1, hd1⟩, ⟨oi2, oth _ _ (Ne.symm hS.2.2.2.2) ho2, hc2, hd2⟩, .inl ⟨oth _ _ (Ne.symm hS.1) hz, _, _, oth _ _ (Ne.symm hS.2.2.1) hTO⟩⟩ (fun c hc => ?_) hS₃ rfl rfl (fun j t x y h => by simp at h) fun s' H' acc' c' ts' I' sm hL' ha hl' hz' => ?_⟩
  · show FpOk X pins H c ∧ c < (((s.heap.push { cls := .type "list", data := .seq ([] : List Value).toArray }).update s.heap.objs.size (Obj.mapSeq (·.push Value.none))).update s.heap.objs.size (Obj.mapSeq (·.pop))).objs.size
    rw [hsz]
    rcases List.mem_cons.mp hc with rfl | hc
    · exact ⟨hSf, Nat.lt_succ_self _⟩
    · refine ⟨hf c hc, ?_⟩
      have e' : c = z ∨ c = TO ∨ c = i1 ∨ c = i2 := by simpa using hc
      refine Nat.lt_succ_of_lt ?_
      rcases e' with q | q | q | q
      · rw [q]; exact Heap.lt_size hz
      · rw [q]; exact Heap.lt_size hTO
      · rw [q]; exact Heap.lt_size ho1
      · rw [q]; exact Heap.lt_size ho2
  · show wpAny _ A (load s.heap.objs.size >>= _) _ _ s'
    refine wpAny_bind (wpAny_load hL' ?_)
    refine wpAny_pure ?_
    show Q acc'.toList s'
    rw [ha]
    exact hQ s' H' ts' I' sm hl' hz'
theorem code_tuple_new_zip {A : Around} {E : Value → Shared → Prop} {s : Shared} {H : Hp} {z TI TO i1 i2 a b : Addr} {x0 y0 : Value} {xs ys : List V} {Q₁ : Value → Shared → Prop} (hh : A.handled = none) (D : ZipApart z TI TO i1 i2 a b) (hl : xs.length = ys.length) (hn : xs.length ≤ sizeLine)
    (I : Inv X pins σ H s) (qa : SqT X.K H a xs) (qb : SqT X.K H b ys) (hz : IsZip s.heap z TI TO .none) (hTI : IsPair s.heap TI (.ref i1) (.ref i2)) (hTO : IsPair s.heap TO x0 y0) (h1 : s.heap.IsTupleIter i1 a 0) (h2 : s.heap.IsTupleIter i2 b 0)
    (hf : ∀ c ∈ [z, TO, i1, i2], FpOk X pins H c) (h : ∀ (s' : Shared) (H' : Hp) (ts : List Addr), Inv X pins σ H' s' → Same H H' → ts.length = xs.length → Zs H' xs ys ts → Q₁ (.ref s'.heap.objs.size) { s' with heap := s'.heap.push { cls := .type "tuple", data := .seq (ts.map Value.ref).toArray } }) :
    codeAny (model X.prog X.w) A (.call (.builtin "tuple.__new__") ⟨[.type "tuple", .ref z], []⟩) (wants Q₁ E) s := by
  refine codeAny_of_tree ?_
  show wpAny _ A.in1 (do checkBuiltinCall "tuple.__new__" ⟨[.type "tuple", .ref z], []⟩; again (.builtin "tuple.__new__" ⟨[.type "tuple", .ref z], []⟩)) _ _ s
  refine wpAny_bind (wpAny_of_eq (F.newCall_tuple_1 _) (wpAny_pure ⟨plainId_quiet F.plain_tuple_new _, codeAny_builtin F.entry_tuple_new ?_⟩))
  rw [Around.under_plainId F.plain_tuple_new _]
  have hsub := sub_tuple_self
  have hinit := init_tuple_lookup
  have hmh := madeHere_tuple
  have hTI' : s.TypeIs (.ref z) "zip" := ⟨_, hz, rfl⟩
  have hh1 : A.in1.handled = none := hh
  wp_walk using wpAny_typeOf hTI', collect_zip (A := A.in1) hh1 D hl hn I qa qb hz hTI hTO h1 h2 hf
  intro s' H' ts I' sm hl' hz'
  show wpAny _ _ (Builtin.Tuple.tupleExact (ts.map Value.ref).toArray >>= fun v => ret v) _ _ _
  unfold Builtin.Tuple.tupleExact
  refine wpAny_bind (wpAny_newObj_type ?_ (by show (ts.map Value.ref).toArray.size ≤ sizeLine; rw [List.size_toArray, List.length_map, hl']; exact hn))
  exact wpAny_pure (h s' H' ts I' sm hl' hz')
theorem call_tuple_zip {A : Around} {E : Value → Shared → Prop} {s : Shared} {H : Hp} {z TI TO i1 i2 a b : Addr} {x0 y0 : Value} {xs ys : List V} {Q : Value → Shared → Prop} (hh : A.handled = none) (D : ZipApart z TI TO i1 i2 a b) (hl : xs.length = ys.length) (hn : xs.length ≤ sizeLine)
    (I : Inv X pins σ H s) (qa : SqT X.K H a xs) (qb : SqT X.K H b ys) (hz : IsZip s.heap z TI TO .none) (hTI : IsPair s.heap TI (.ref i1) (.ref i2)) (hTO : IsPair s.heap TO x0 y0) (h1 : s.heap.IsTupleIter i1 a 0) (h2 : s.heap.IsTupleIter i2 b 0)
    (hf : ∀ c ∈ [z, TO, i1, i2], FpOk X pins H c) (hQ : ∀ (s' : Shared) (H' : Hp) (ts : List Addr), Inv X pins σ H' s' → Same H H' → ts.length = xs.length → Zs H' xs ys ts → Q (.ref s'.heap.objs.size) { s' with heap := s'.heap.push { cls := .type "tuple", data := .seq (ts.map Value.ref).toArray } }) :
    wpAny (model X.prog X.w) A (call (.type "tuple") [.ref z]) Q E s := by
  refine callType_codes (Q₁ := fun obj s₁ => s₁.TypeIs obj "tuple" ∧ Q obj s₁) F.called_tuple (F.typeCall_tuple_1 _) F.entry_object_init
    (code_tuple_new_zip (A := A.in1) hh D hl hn I qa qb hz hTI hTO h1 h2 hf fun s' H' ts I' sm hl' hz' => ⟨⟨_, Heap.get?_push_size _ rfl, rfl⟩, hQ s' H' ts I' sm hl' hz'⟩) fun obj s₁ h₁ => ?_
  exact ⟨h₁.1, F.args_object_init_2 obj _, object_init_meets F.called_tuple.init.lookup F.called_tuple.made (by decide) X.prog X.w A.in1 _ s₁ ⟨h₁.1, rfl, h₁.2⟩⟩
end
section
variable {X : Cx}
/-- tuple(zip(a, b)) of two tuples of one length -/
def tTupZip (K : PySem.W.Frag) (ta : TA) : TE := fun σ H Q => ta σ H fun vs H1 => ∃ a b xs ys, vs = [V.ref a, V.ref b] ∧ SqT K H1 a xs ∧ SqT K H1 b ys ∧ xs.length = ys.length ∧ xs.length ≤ sizeLine ∧
  ∀ (p : Addr) (ts : List Addr) H2, Same H1 H2 → H2 p = some (.tup (ts.map V.ref)) → ts.length = xs.length → Zs H2 xs ys ts → Q (.ref p) H2
theorem vals_refs : ∀ ts : List Addr, Vals (ts.map V.ref) (ts.map Value.ref)
  | [] => .nil
  | t :: r => .cons rfl (vals_refs r)
/-- a fresh zip of two tuples -/
def AtZip (X : Cx) (pins : List (Addr × Obj)) (σ : L2.St) (R : List V → List V → Hp → Prop) : Value → Shared → Prop := fun x s1 => ∃ (z TI TO i1 i2 a b : Addr) (x0 y0 : Value) (xs ys : List V) (H1 : Hp), x = .ref z ∧ ZipApart z TI TO i1 i2 a b ∧ Inv X pins σ H1 s1 ∧ SqT X.K H1 a xs ∧ SqT X.K H1 b ys ∧
  IsZip s1.heap z TI TO .none ∧ IsPair s1.heap TI (.ref i1) (.ref i2) ∧ IsPair s1.heap TO x0 y0 ∧ s1.heap.IsTupleIter i1 a 0 ∧ s1.heap.IsTupleIter i2 b 0 ∧ (∀ c ∈ [z, TO, i1, i2], FpOk X pins H1 c) ∧ R xs ys H1
theorem eval_zip {e e2 : Expr} {ta : TA} {p pos : Pos} {pins : List (Addr × Obj)} {σ : L2.St} {H : Hp} {s : Shared} {R : List V → List V → Hp → Prop} (hg : Gl X "zip") (hm : X.mg "zip" = none) (ha : PA X [e, e2] ta) (I : Inv X pins σ H s)
    (h : ta σ H fun vs H1 => ∃ a b xs ys, vs = [V.ref a, V.ref b] ∧ SqT X.K H1 a xs ∧ SqT X.K H1 b ys ∧ R xs ys H1)
    (hs : starEach [e, e2] X.env = (false, eval e X.env) :: starEach [e2] X.env := by rfl) (hpl : (backTo pos (starEach [e2] X.env)).any (·.1) = false := by rfl) :
    wpAny (model X.prog X.w) X.A (eval (.Call (.Name "zip" p) [e, e2] [] pos) X.env) (AtZip X pins σ R) X.xe s := by
  refine Call_ (ld_blt I hg hm PyProof.Rows.boot_zip (PyProof.Rows.callWith_type1 (thn (ha.run pos pins s σ H _ I h) fun us s1 ⟨vs, H1, I1, r1, q1⟩ => ?_) hs hpl))
  obtain ⟨a, b, xs, ys, ex, qa, qb, q⟩ := q1
  subst ex
  cases r1 with
  | cons r rr =>
    cases rr with
    | cons r' rr =>
      cases rr
      cases r
      cases r'
      obtain ⟨its, rv, p1, _⟩ := I1.tuple qa
      obtain ⟨its2, rv2, p2, _⟩ := I1.tuple qb
      obtain ⟨o1, ho1, _⟩ := id p1
      obtain ⟨o2, ho2, _⟩ := id p2
      refine call_zipT (show s1.heap.IsTuple a its.toArray from p1) (show s1.heap.IsTuple b its2.toArray from p2) fun h' hz hTI hTO h1 h2 hsz hk => ?_
      have I2 : Inv X pins σ H1 { s1 with heap := h' } := I1.kept (t' := s1.toks) hk
      refine ⟨s1.heap.objs.size + 4, s1.heap.objs.size + 2, s1.heap.objs.size + 3, s1.heap.objs.size, s1.heap.objs.size + 1, a, b, _, _, xs, ys, H1, rfl, PySem.W.ktu_apart s1.heap.objs.size a b (Heap.lt_size ho1) (Heap.lt_size ho2), I2, qa, qb, hz, hTI, hTO, h1, h2, fun c hcm => ?_, q⟩
      have e' : c = s1.heap.objs.size + 4 ∨ c = s1.heap.objs.size + 3 ∨ c = s1.heap.objs.size ∨ c = s1.heap.objs.size + 1 := by simpa using hcm
      have hle : s1.heap.objs.size ≤ c := by
        rcases e' with z | z | z | z
        · rw [z]; exact Nat.le_add_right _ _
        · rw [z]; exact Nat.le_add_right _ _
        · rw [z]; exact Nat.le_refl _
        · rw [z]; exact Nat.le_add_right _ _
      exact I1.fpOk hle (I1.hok.fresh hle)
theorem pe_tupZip {e e2 : Expr} {ta : TA} {p p2 pos pos2 : Pos} (hc : X.calm = true) (hg : Gl X "tuple") (hm : X.mg "tuple" = none) (hg2 : Gl X "zip") (hm2 : X.mg "zip" = none) (ha : PA X [e, e2] ta)
    (hs : starEach [e, e2] X.env = (false, eval e X.env) :: starEach [e2] X.env := by rfl) (hpl : (backTo pos2 (starEach [e2] X.env)).any (·.1) = false := by rfl)
    (na : starEach [.Call (.Name "zip" p2) [e, e2] [] pos2] X.env = (false, eval (.Call (.Name "zip" p2) [e, e2] [] pos2) X.env) :: starEach [] X.env := by rfl) :
    PE X (.Call (.Name "tuple" p) [.Call (.Name "zip" p2) [e, e2] [] pos2] [] pos) (tTupZip X.K ta) := by
  refine ⟨fun pins s σ H Q I h => ?_⟩
  refine Call_ (ld_blt I hg hm boot_tuple (PyProof.Rows.callWith_type1 (args_cons (thn (eval_zip (R := fun xs ys H1 => xs.length = ys.length ∧ xs.length ≤ sizeLine ∧ ∀ (p : Addr) (ts : List Addr) H2, Same H1 H2 → H2 p = some (.tup (ts.map V.ref)) → ts.length = xs.length → Zs H2 xs ys ts → Q (.ref p) H2) hg2 hm2 ha I h hs hpl) fun x s1 hx => args_nil ?_) na) na))
  obtain ⟨z, TI, TO, i1, i2, a, b, x0, y0, xs, ys, H1, rfl, D, I1, qa, qb, hz, hTI, hTO, h1, h2, hf, hl, hn, q⟩ := hx
  refine call_tuple_zip (I1.ok.hd hc) D hl hn I1 qa qb hz hTI hTO h1 h2 hf fun s' H' ts I' sm hl' hz' => ?_
  have hno : H' s'.heap.objs.size = none := I'.hok.fresh (Nat.le_refl _)
  have sm2 := same_upd (o := .tup (ts.map V.ref)) hno
  exact ⟨.ref s'.heap.objs.size, upd H' s'.heap.objs.size (.tup (ts.map V.ref)), I'.laid (t' := s'.toks) (fun b o e => Heap.get?_push_of_some _ e) (Nat.le_refl _) (show ObjOk X.prog X.w _ _ _ (.tup (ts.map V.ref)) from ⟨by rw [List.length_map, hl']; exact hn, ts.map Value.ref, vals_refs ts, IsTup.new _ _⟩), rfl,
    q _ ts _ (sm.trans sm2) upd_same hl' (hz'.on sm2)⟩
end
end My

/-! My own rules: an operator between two instances of a class that has no reflected method for it. -/
namespace My
open PySem PySem.Spec PyProof.Rows L2
structure OpN (K : PySem.W.Frag) (C : Addr) (nm : String) (f : Addr) : Prop where
  sf : PySem.W.selfFirst K C = true
  ls : PySem.W.findIn K (.ref C) (PySem.dunder nm) = some (some (.ref f))
  lf : PySem.W.isFn K (.ref f) = true
section
variable {prog : Program} {w : World} {A : Around} {Ex : Value → Shared → Prop} {s : Shared} {K : PySem.W.Frag} {C f : Addr} {nm : String}
open PySem.W
theorem b1_ownN {x y : Addr} {odx ody : Option Obj} {ox oy : Obj} {Q : Value → Shared → Prop} (X : K.In s.heap) (O : OpN K C nm f) (I : InstAt s.heap x ox C odx) (J : InstAt s.heap y oy C ody)
    (h : wpAny (model prog w) A (call (.ref f) [.ref x, .ref y]) (PySem.W.CmpBack Q) Ex s) : wpAny (model prog w) A (binaryOp1 nm (.ref x) (.ref y)) (fun r s' => ∃ v, r = some v ∧ Q v s') Ex s := by
  obtain ⟨cd, rest, hcd, hm⟩ := ksp_first O.sf
  unfold binaryOp1
  refine wpAny_bind (I.type.here (wpAny_bind (J.type.here (wpAny_bind ((fills_K X hcd hm O.ls).here ?_)))))
  simp only [beq_self_eq_true, if_true]
  refine wpAny_bind (wpAny_pure ?_)
  simp only [Bool.and_false, Bool.false_eq_true, if_false, Bool.false_and]
  refine wpAny_bind (wpAny_pure ?_)
  simp only [Bool.false_eq_true, if_false]
  refine wpAny_bind (m := tryMethod (.ref x) _ (.ref y)) (wpAny_mono (ksp_try X I O.ls O.lf h) (fun r s' hr => ?_) fun _ _ e => e)
  obtain ⟨v, rfl, hq⟩ := hr
  exact wpAny_pure ⟨v, rfl, hq⟩
end
section
variable {X : Cx} {CX : CXT} {k : Nat} {C f : Addr} {fd : FuncData} {ps : List Str} {sp : Sp} {E : XK} {op : Operator}
theorem op_nn {nm : String} (hn : op.info.2 = nm) (O : OpN X.K C nm f) (F : FnOk X.prog X.w X.K X.mg X.base CX k f fd ps sp) (hr : Room k X.A) (hb : Binds X.K fd ps []) (hx : Passes CX X E) : OpR X (binaryOp op) (rOO C sp E) := by
  intro pins s σ H x y v u Q I rx ry h
  refine bin_of hn ?_
  obtain ⟨a, dx, fs, b, dy, gs, rfl, rfl, ea, eb, q⟩ := h
  obtain rfl : v = Value.ref a := rx
  obtain rfl : u = Value.ref b := ry
  obtain ⟨mA, J, _⟩ := ins_get I.hok ea
  obtain ⟨od, J, _⟩ := J.look
  obtain ⟨mB, J', _⟩ := ins_get I.hok eb
  obtain ⟨od', J', _⟩ := J'.look
  exact b1_ownN I.kIn O J J' (wpAny_mono (run_own (vs := [V.ref a, V.ref b]) F hr hb hx I (.cons rfl (.cons rfl .nil)) q) (fun _ _ z => back_of z) fun _ _ e => e)
theorem op_notInR {j : Nat} (hr : Room j X.A) : OpR X (compareOp .NotIn) (rNotInD X.K) := op_notInD (by have := hr.un; omega)
end
end My

/-! My own rule: several except clauses, each with a name of its own. -/
namespace My
open PySem PySem.Spec PyProof.Rows L2
/-- a clause: the class, the slot of its name, what its suite asks -/
abbrev Clause := Value × Nat × (Addr → Value → Option Addr → TS)
def wAsMany (K : PySem.W.Frag) (Wout : WX) (D : Ends) : List Clause → WX
  | [] => Wout
  | (c, i, ts) :: r => wAs K c i ts (wAsMany K Wout D r) D
inductive HdsAs (X : Cx) : List ExceptHandler → List Clause → Prop
  | nil : HdsAs X [] []
  | cons {x n : Str} {c : Value} {i : Nat} {ts : Addr → Value → Option Addr → TS} {b0 : Stmt} {suite : List Stmt} {np pos' : Pos} {hds : List ExceptHandler} {l : List Clause} (hi : X.N[i]? = some n) (hln : X.env.kindOf n = some .local) (hc : Names X x c)
      (hsu : ∀ (a : Addr) (oe : Obj) (cls : Value) (d : Option Addr) (pn : List (Addr × Obj)), Zc cls d oe → (∃ vs, oe.data = .fields vs) → PSs (X.suite a ((a, oe) :: pn)) (b0 :: suite) (ts a cls d)) (r : HdsAs X hds l) :
      HdsAs X (.ExceptHandler (some (.Name x np)) (some n) (b0 :: suite) pos' :: hds) ((c, i, ts) :: l)
section
variable {X : Cx} {body : List Stmt} {h0 : ExceptHandler} {hds : List ExceptHandler} {l : List Clause} {pos : Pos} {tb : WX → TS} {Wout : WX}
theorem ps_try_asMany (hs : X.stack = X.env :: X.outer) (hf : X.env.frame = some X.env.locals) (hN : X.N.Nodup) (tk : Takes X Wout)
    (hb : ∀ (W : WX) (pn : List (Addr × Obj)) (xe : Value → Shared → Prop), Takes (X.tr pn xe) W → PassesOwn (model X.prog X.w) X.A X.env xe → PSs (X.tr pn xe) body (tb W))
    (hh : HdsAs X (h0 :: hds) l) : PS X (.Try body (h0 :: hds) [] [] pos) (fun D σ H => tb (wAsMany X.K Wout D l) D σ H) := by
  refine ⟨fun pins s σ H D I h => ?_⟩
  have ok := I.ok
  have hfr : X.A.frames = some (X.env :: X.outer) := by rw [ok.frames, hs]
  refine wpAny_Try_except ?_
  refine wpAny_mono ((hb (wAsMany X.K Wout D l) (X.pn ++ pins) (fun e s1 => wpAny (model X.prog X.w) X.A (noteFrame e X.env) (fun _ s2 => wpAny (model X.prog X.w) X.A (setFlight e none) (fun _ s3 =>
    wpAny (model X.prog X.w) X.A (handleBy e X.env (h0 :: hds)) (SP X pins D) X.xe s3) X.xe s2) X.xe s1) (fun u s' xx => ?_) PassesOwn.looking).run [] s σ H D (I.toTry _) h) (fun f s1 hsp => ?_) (fun e s1 he => he)
  · obtain ⟨a, B, sI, pins', σ', H', cls, d, rfl, J', nb, up, sky, na, os, ag, w⟩ := xx
    have J : Inv X pins σ' H' sI := J'.ofTry ok
    have sky' : Sky B (X.env :: X.outer) a (Zc cls d) X.env.locals s'.heap := by rw [← hs]; exact sky
    show wpAny (model X.prog X.w) X.A (noteFrame (.ref a) X.env) _ _ _
    refine Sky.land Zc.steady hfr hf sky' fun h3 fl3 up3 => ?_
    have J3 : Inv X pins σ' H' { s' with heap := h3 } := J.landed nb fl3.1 (up.trans up3) os ag
    obtain ⟨oe3, vs3, he3, hz3, hd3⟩ := fl3.there
    have nfr : a ∉ frs (X.env :: X.outer) := fun hm => by
      obtain ⟨_, o', e', hnf⟩ := fl3.2.2.1.mem hm
      rw [he3] at e'; cases e'
      exact hnf _ hd3
    have nL : a ≠ X.env.locals := fun z => nfr (List.mem_filterMap.mpr ⟨X.env, List.mem_cons_self, by rw [hf, z]⟩)
    have nF : a ∉ X.fs := fun hm => by
      obtain ⟨e, he, q⟩ := List.mem_filterMap.mp hm
      exact nfr (List.mem_filterMap.mpr ⟨e, List.mem_cons_of_mem _ he, q⟩)
    have S3 := J3.suite he3 hd3 na nL nF
    have go : ∀ {hds' : List ExceptHandler} {l' : List Clause}, HdsAs X hds' l' → wAsMany X.K Wout D l' cls d σ' H' →
        wpAny (model X.prog X.w) X.A (handleBy (.ref a) X.env hds') (SP X pins D) X.xe { s' with heap := h3 } := by
      intro hds' l' hk
      induction hk with
      | nil =>
        intro w
        refine wpAny_handleBy_nil ?_
        obtain ⟨k1, k2, k3, oe, vs, T, oT, ts', he, hz, hd, h1, hr⟩ := id fl3
        unfold PySem.passOn
        refine wpAny_bind (wpAny_field he hd h1 ?_)
        rw [if_neg (show ¬ ((Value.ref T == Value.none) = true) from by simp)]
        have fin : wpAny (model X.prog X.w) X.A (setFlight (.ref a) X.env.frame) (fun _ s4 => wpAny (model X.prog X.w) X.A (throw (.ref a) : Sem Flow) (SP X pins D) X.xe s4) X.xe { s' with heap := h3 } := by
          rw [hf]
          refine HandSPX.setFlight_upZ fl3 fun h4 hh4 up4 => wpAny_throw (tk _ _ ?_)
          exact ⟨a, B, sI, pins, σ', H', cls, d, rfl, J, nb, (up.trans up3).trans up4, .inr (.inr (by rw [hs]; exact hh4)), na, os, ag, w⟩
        first
          | exact wpAny_bind (wpAny_pure (wpAny_bind fin))
          | exact wpAny_bind fin
      | @cons x n c i ts b0 suite np pos' hds2 l2 hi hln hc hsu r ih =>
        intro w
        obtain ⟨b, hb1, hyes, hno⟩ := w
        have hloc : Loc X.env.scope n := .inl hln
        refine wpAny_handleBy_cons (codeAny_handlers_test ?_) (by intro q; cases q)
        have LT : PySem.W.Looks (model X.prog X.w) h3 (typeOf (.ref a)) cls := fun A Q E s k q => wpAny_typeOf_ref (k _ _ he3) (by rw [hz3.1]; exact q)
        have LM := PySem.W.exm_one (M := model X.prog X.w) (J3.kIn) LT hb1
        have test : ∀ {Q : Value → Shared → Prop} {E : Value → Shared → Prop}, Q c { s' with heap := h3 } → wpAny (model X.prog X.w) (X.A.mark (some (.ref a))) (eval (.Name x np) X.env) Q E { s' with heap := h3 } := fun {Q E} q => by
          obtain ⟨hg, hdbg, hm | ⟨hm, hv, hnn⟩⟩ := hc
          · exact ld_glob (X := X.suite a ((a, oe3) :: (X.pn ++ pins))) S3 hg hm q hdbg
          · exact ld_blt (X := X.suite a ((a, oe3) :: (X.pn ++ pins))) S3 hg hm hv q hnn hdbg
        refine test (LM.here ?_)
        cases b with
        | true =>
          refine codeAny_handlers_suite_as ?_
          refine HandSPX.lands_againZ fl3 fun h4 fl4 up4 => ?_
          have J4 : Inv X pins σ' H' { s' with heap := h4 } := J.landed nb fl4.1 ((up.trans up3).trans up4) os ag
          obtain ⟨oe4, vs4, he4, hz4, hd4⟩ := fl4.there
          have S4 := J4.suite he4 hd4 na nL nF
          refine store_ok (X := X.suite a ((a, oe4) :: (X.pn ++ pins))) (v := .ref a) S4 hN hi hloc rfl (fun s5 S5 => ?_) (.inr hln)
          refine wpAny_mono ((hsu a oe4 cls d (X.pn ++ pins) hz4 ⟨_, hd4⟩).run [] s5 _ H' _ S5 (hyes rfl a na)) (fun f s6 hsp => ?_) (fun _ _ z => False.elim z)
          have end_ : ∀ {σ6 : L2.St} {H6 : Hp} {Q : Shared → Prop}, Inv (X.suite a ((a, oe4) :: (X.pn ++ pins))) [] σ6 H6 s6 → (∀ s7, Inv X pins (σ6.set i none) H6 s7 → Q s7) →
              wpAny (model X.prog X.w) X.A (do bindName X.env n .none; unbindBehindTheSuite X.env n pos') (fun _ s7 => Q s7) X.xe s6 := fun {σ6 H6 Q} S6 hq => gone_ok (S6.unsuite ok) hN hi hln hq
          cases f with
          | next =>
            obtain ⟨σ6, H6, S6, q6⟩ := hsp
            exact end_ S6 fun s7 J7 => ⟨_, _, J7, q6⟩
          | brk =>
            obtain ⟨σ6, H6, S6, q6⟩ := hsp
            exact end_ S6 fun s7 J7 => ⟨_, _, J7, q6⟩
          | cont =>
            obtain ⟨σ6, H6, S6, q6⟩ := hsp
            exact end_ S6 fun s7 J7 => ⟨_, _, J7, q6⟩
          | ret u =>
            obtain ⟨v6, σ6, H6, S6, r6, q6⟩ := hsp
            exact end_ S6 fun s7 J7 => ⟨_, _, _, J7, r6, q6⟩
        | false =>
          show wpAny _ X.A (handleBy (.ref a) X.env hds2) _ _ _
          exact ih (hno rfl)
    exact go hh w
  · cases f with
    | next =>
      obtain ⟨σ', H', J', q⟩ := hsp
      exact wpAny_execs_nil ⟨σ', H', J'.ofTry ok, q⟩
    | brk =>
      obtain ⟨σ', H', J', q⟩ := hsp
      exact ⟨σ', H', J'.ofTry ok, q⟩
    | cont =>
      obtain ⟨σ', H', J', q⟩ := hsp
      exact ⟨σ', H', J'.ofTry ok, q⟩
    | ret u =>
      obtain ⟨v, σ', H', J', r, q⟩ := hsp
      exact ⟨v, σ', H', J'.ofTry ok, r, q⟩
end
end My

/-! My own rules: o[k], o[k] = v, k in o, len(o) by the methods of an own class, also where they raise. -/
namespace My
open PySem PySem.Spec PyProof.Rows L2
/-- a method of the class for an operator -/
structure DunC (K : PySem.W.Frag) (C : Addr) (nm : Str) (f : Addr) : Prop where
  at_ : PySem.W.findIn K (.ref C) nm = some (some (.ref f))
  fn : PySem.W.isFn K (.ref f) = true
  fi : PySem.W.fnIn K f = true
  ns : PySem.W.noSeq K C = true
section
variable {X : Cx} {CX : CXT} {k : Nat} {C f : Addr} {fd : FuncData} {ps : List Str} {sp : Sp} {E : XK}
theorem passesAtOf {E : XK} (h : Passes CX X E) (σ : L2.St) : PassesAt CX X σ E := fun pins H s e s' I c => h pins σ H s e s' I c
theorem run_ownS {pins : List (Addr × Obj)} {s : Shared} {σ : L2.St} {H : Hp} {Q : VK} {us : List Value} {vs : List V} (F : FnOk X.prog X.w X.K X.mg X.base CX k f fd ps sp) (hr : Room k X.A) (hb : Binds X.K fd ps []) (hx : PassesAt CX X σ E)
    (I : Inv X pins σ H s) (r : Vals vs us) (h : sp vs H Q E) : wpAny (model X.prog X.w) X.A (call (.ref f) us) (EP X pins σ Q) X.xe s := by
  have hl : (us ++ []).length = ps.length := by
    rw [List.append_nil, ← F.len _ _ _ _ h]
    exact r.length.symm
  refine wpAny_call (codeAny_mono (F.run X.A X.stack s H ⟨us, []⟩ us vs _ E hr I.env0 (by
    have := hb s us I.kIn hl
    rw [List.append_nil] at this
    exact this) r h) fun r s' hq => ?_)
  cases r with
  | error e => exact hx pins H s e s' I hq
  | ok fl =>
    cases fl with
    | ret w => exact I.after hq
    | next => exact False.elim hq
    | brk => exact False.elim hq
    | cont => exact False.elim hq
theorem run_own1S {pins : List (Addr × Obj)} {s : Shared} {σ : L2.St} {H : Hp} {Q : VK} {us : List Value} {vs : List V} (F : FnOk X.prog X.w X.K X.mg X.base CX k f fd ps sp) (hr : Room (k + 1) X.A) (hb : Binds X.K fd ps []) (hx : PassesAt CX X σ E)
    (I : Inv X pins σ H s) (r : Vals vs us) (h : sp vs H Q E) : wpAny (model X.prog X.w) X.A.in1 (call (.ref f) us) (EP X pins σ Q) X.xe s := by
  have hl : (us ++ []).length = ps.length := by
    rw [List.append_nil, ← F.len _ _ _ _ h]
    exact r.length.symm
  refine wpAny_call (codeAny_mono (F.run X.A.in1 X.stack s H ⟨us, []⟩ us vs _ E hr.in1 I.env0.in1 (by
    have := hb s us I.kIn hl
    rw [List.append_nil] at this
    exact this) r h) fun r s' hq => ?_)
  cases r with
  | error e => exact hx pins H s e s' I hq
  | ok fl =>
    cases fl with
    | ret w => exact I.after hq
    | next => exact False.elim hq
    | brk => exact False.elim hq
    | cont => exact False.elim hq
/-! ### o[k] -/
def tGetO (C : Addr) (sp : Sp) (E : L2.St → XK) (ta tb : TE) : TE := fun σ H Q => ta σ H fun x H1 => tb σ H1 fun y H2 => ∃ a dx fs, x = V.ref a ∧ H2 a = some (.ins C dx fs) ∧ sp [.ref a, y] H2 Q (E σ)
theorem pe_getO {E : L2.St → XK} {a b : Expr} {ta tb : TE} {pos : Pos} (D : DunC X.K C "__getitem__" f) (F : FnOk X.prog X.w X.K X.mg X.base CX k f fd ps sp) (hr : Room (k + 1) X.A) (hb : Binds X.K fd ps []) (hx : ∀ σ, PassesAt CX X σ (E σ)) (pa : PE X a ta) (pb : PE X b tb)
    (hs : ∀ (x : Addr) (u : Value), subscripted b true (.ref x) u = runValue (.builtin "lifetime.subscript" ⟨[.ref x, u], []⟩)) : PE X (.Subscript a b pos) (tGetO C sp E ta tb) := by
  refine ⟨fun pins s σ H Q I h => ?_⟩
  refine Subscript_ (binT pa pb I (R := fun x y H2 => ∃ a dx fs, x = V.ref a ∧ H2 a = some (.ins C dx fs) ∧ sp [.ref a, y] H2 Q (E σ)) h fun v u s2 x y H2 I2 rx ry q => ?_)
  obtain ⟨p, dx, fs, rfl, ea, q⟩ := q
  obtain rfl : v = Value.ref p := rx
  obtain ⟨mA, J, _⟩ := ins_get I2.hok ea
  obtain ⟨od, J, _⟩ := J.look
  obtain ⟨m, hF⟩ := I2.fr
  exact PySem.W.sub_K hF I2.ok.mod.kin J D.at_ D.fi D.fn (run_own1S (vs := [V.ref p, y]) F hr hb (hx σ) I2 (.cons rfl (.cons ry .nil)) q) (hs p u)
/-! ### k in o -/
def rInI (C : Addr) (sp : Sp) (E : XK) (neg : Bool) : R2 := fun x y H Q => ∃ a dx fs, y = V.ref a ∧ H a = some (.ins C dx fs) ∧ sp [.ref a, x] H (fun v H' => ∃ b, v = .bl b ∧ Q (.bl (if neg then !b else b)) H') E
theorem op_inO (D : DunC X.K C "__contains__" f) (F : FnOk X.prog X.w X.K X.mg X.base CX k f fd ps sp) (hr : Room k X.A) (hb : Binds X.K fd ps []) (hx : Passes CX X E) : OpR X (compareOp .In) (rInI C sp E false) := by
  intro pins s σ H x y v u Q I rx ry h
  obtain ⟨p, dx, fs, rfl, ea, q⟩ := h
  obtain rfl : u = Value.ref p := ry
  obtain ⟨mA, J, _⟩ := ins_get I.hok ea
  obtain ⟨od, J, _⟩ := J.look
  obtain ⟨m, hF⟩ := I.fr
  refine PySem.W.in_K hF I.ok.mod.kin J D.at_ D.fn (wpAny_mono (run_ownS (vs := [V.ref p, x]) F hr hb (passesAtOf hx σ) I (.cons rfl (.cons rx .nil)) q) (fun r s' hr' => ?_) fun _ _ e => e)
  obtain ⟨z, H2, I2, rz, b, ez, q2⟩ := hr'
  subst ez
  obtain rfl : r = Value.bool b := rz
  exact wpAny_truthy_bool ⟨.bl b, H2, I2, rfl, q2⟩
theorem op_notInO (D : DunC X.K C "__contains__" f) (F : FnOk X.prog X.w X.K X.mg X.base CX k f fd ps sp) (hr : Room k X.A) (hb : Binds X.K fd ps []) (hx : Passes CX X E) : OpR X (compareOp .NotIn) (rInI C sp E true) := by
  intro pins s σ H x y v u Q I rx ry h
  obtain ⟨p, dx, fs, rfl, ea, q⟩ := h
  obtain rfl : u = Value.ref p := ry
  obtain ⟨mA, J, _⟩ := ins_get I.hok ea
  obtain ⟨od, J, _⟩ := J.look
  obtain ⟨m, hF⟩ := I.fr
  refine PySem.W.notIn_K hF I.ok.mod.kin J D.at_ D.fn (wpAny_mono (run_ownS (vs := [V.ref p, x]) F hr hb (passesAtOf hx σ) I (.cons rfl (.cons rx .nil)) q) (fun r s' hr' => ?_) fun _ _ e => e)
  obtain ⟨z, H2, I2, rz, b, ez, q2⟩ := hr'
  subst ez
  obtain rfl : r = Value.bool b := rz
  exact wpAny_truthy_bool ⟨.bl (!b), H2, I2, rfl, q2⟩
/-! ### len(o) -/
def rLenO (C : Addr) (sp : Sp) (E : XK) : List V → Hp → VK → Prop := fun xs H Q => ∃ a dx fs, xs = [V.ref a] ∧ H a = some (.ins C dx fs) ∧ sp [.ref a] H (fun v H' => ∃ n : Int, v = .int n ∧ 0 ≤ n ∧ n < 2 ^ 63 ∧ Q (.int n) H') E
theorem call_lenO (D : DunC X.K C "__len__" f) (F : FnOk X.prog X.w X.K X.mg X.base CX k f fd ps sp) (hr : Room (k + 1) X.A) (hb : Binds X.K fd ps []) (hx : Passes CX X E) : CallR X (.builtin "len") (rLenO C sp E) := by
  intro pins s σ H xs us Q I r h
  obtain ⟨p, dx, fs, rfl, ea, q⟩ := h
  obtain ⟨u, rfl, rx⟩ := vals1 r
  obtain rfl : u = Value.ref p := rx
  obtain ⟨mA, J, _⟩ := ins_get I.hok ea
  obtain ⟨od, J, _⟩ := J.look
  obtain ⟨m, hF⟩ := I.fr
  refine PySem.W.len_K hF I.ok.mod.kin J D.at_ D.fn (wpAny_mono (run_own1S (vs := [V.ref p]) F hr hb (passesAtOf hx σ) I (.cons rfl .nil) q) (fun r s' hr' => ?_) fun _ _ e => e)
  obtain ⟨z, H2, I2, rz, n, ez, n0, n1, q2⟩ := hr'
  subst ez
  obtain ⟨t, rfl⟩ := rz
  exact ⟨⟨n0, n1⟩, .int n, H2, I2.tok _, ⟨_, rfl⟩, q2⟩
/-! ### o[k] = v -/
def gSetO (C : Addr) (sp : Sp) (E : L2.St → XK) (to ti : TE) : TG := fun v σ H Q => to σ H fun o H1 => ti σ H1 fun i H2 => ∃ a dx fs, o = V.ref a ∧ H2 a = some (.ins C dx fs) ∧ sp [.ref a, i, v] H2 (fun _ H3 => Q σ H3) (E σ)
theorem pg_setO {E : L2.St → XK} {o i : Expr} {to ti : TE} {pos : Pos} (D : DunC X.K C "__setitem__" f) (F : FnOk X.prog X.w X.K X.mg X.base CX k f fd ps sp) (hr : Room k X.A) (hb : Binds X.K fd ps []) (hx : ∀ σ, PassesAt CX X σ (E σ)) (ho : PE X o to) (hi : PE X i ti)
    (ha : ∀ v, assign (.Subscript o i pos) X.env v = (do
      let ov ← holding [v] (eval o X.env)
      let iv ← holding [v, ov] (eval i X.env)
      standAt pos
      holding [v, ov, iv] (setItem ov iv v)
      release [v, ov, iv] []) := by intro _; rfl) : PG X (.Subscript o i pos) (gSetO C sp E to ti) := by
  refine ⟨fun pins s σ H v u Q I r h => ?_⟩
  rw [ha]
  refine wpAny_bind (wpAny_holding (thn (ho.run pins s σ H _ I h) fun ov s1 ⟨x, H1, I1, r1, q1⟩ => ?_))
  refine wpAny_bind (wpAny_holding (thn (hi.run pins s1 σ H1 _ I1 q1) fun iv s2 ⟨y, H2, I2, r2, q2⟩ => ?_))
  obtain ⟨p, dx, fs, rfl, ea, q⟩ := q2
  obtain rfl : ov = Value.ref p := r1
  obtain ⟨mA, J, _⟩ := ins_get I2.hok ea
  obtain ⟨od, J, _⟩ := J.look
  obtain ⟨m, hF⟩ := I2.fr
  refine wpAny_bind (wpAny_standAt (wpAny_bind (wpAny_holding (PySem.W.ksp_setItem hF I2.ok.mod.kin J D.ns D.at_ D.fn (wpAny_mono (run_ownS (vs := [V.ref p, y, v]) F hr hb (hx σ) I2 (.cons rfl (.cons r2 (.cons r .nil))) q) (fun r s3 hr' => ?_) fun _ _ e => e)))))
  obtain ⟨z, H3, I3, rz, q3⟩ := hr'
  exact wpAny_release ⟨σ, H3, I3, q3⟩
end
end My

/-! My own rules: a dict's display that begins with another dict; tuple(d) of a dict. -/
namespace My
open PySem PySem.Spec PyProof.Rows L2
section
variable {prog : Program} {w : World} {K : Type} [DecidableEq K] {knd : KeyKind prog w K} {A : Around} {E : Value → Shared → Prop} {s : Shared}
/-- one entry laid by the display's merge -/
theorem put_kv {a : Addr} {ps : List (K × Value)} {x : K} {u y : Value} {R : Unit → Shared → Prop} (hx : knd.is x u = true) (D : s.heap.DictOf knd a ps) (hl : ps.length ≤ sizeLine)
    (q : ∀ g, g.DictOf knd a (stored ps x y) → Heap.SameBut a s.heap g → R () { s with heap := g }) : wpAny (model prog w) A (dictPut a (knd.hash x) u y) R E s := by
  obtain ⟨ob, en, ep, e1, e2, e3, e4, e5, e6⟩ := D
  have len : en.size ≤ sizeLine := by
    have t := e5.length
    rw [Array.length_toList] at t
    omega
  have same : (en.findIdx? fun z => knd.is x z.key) = ps.findIdx? fun z => decide (z.1 = x) := by
    have t := e5.findIdx x
    obtain ⟨l⟩ := en
    simpa using t
  unfold dictPut
  refine wpAny_bind (wpAny_dictFind_of hx e1 e3 e4 ?_)
  cases hi : en.findIdx? fun z => knd.is x z.key with
  | none =>
    have out : x ∉ ps.map (·.1) := not_mem_of_findIdx_none (same ▸ hi)
    have none' : ¬ (ps.any fun z => decide (z.1 = x)) = true := fun t => by
      obtain ⟨z, z1, z2⟩ := List.any_eq_true.mp t
      exact out (List.mem_map.mpr ⟨z, z1, of_decide_eq_true z2⟩)
    refine wpAny_updateDictKeys (hz := len) e1 e3 (q _ ?_ (Heap.SameBut.update ..))
    refine ⟨_, _, ep + 1, Heap.get?_update_self _ e1 (Obj.isFreed_of_dict (Obj.data_mapDictKeys e3 _)), e2.mapDictKeys _, Obj.data_mapDictKeys e3 _, e4.push hx _, ?_, ?_⟩
    · rw [stored, if_neg none']
      have t := e5.append hx (knd.hash x) y
      obtain ⟨l⟩ := en
      simpa using t
    · rw [stored, if_neg none', List.map_append]
      refine List.nodup_append.mpr ⟨e6, by simp, fun c hc b hb => ?_⟩
      simp only [List.map_cons, List.map_nil, List.mem_singleton] at hb
      rw [hb]
      exact fun t => out (t ▸ hc)
  | some i =>
    have there := any_of_findIdx_some (same ▸ hi)
    have hi' : (en.toList.findIdx? fun z => knd.is x z.key) = some i := by
      rw [← hi]
      obtain ⟨l⟩ := en
      simp
    refine wpAny_updateDict e1 e3 (q _ ?_ (Heap.SameBut.update ..))
    refine ⟨_, _, ep, Heap.get?_update_self _ e1 (Obj.isFreed_of_dict (Obj.data_mapDict e3 _)), e2.mapDict _, Obj.data_mapDict e3 _, e4.modify _ _, ?_, ?_⟩
    · rw [stored, if_pos there]
      have t := e5.modify e6 hi' y
      obtain ⟨l⟩ := en
      simpa using t
    · rw [stored, if_pos there, keys_map_store]
      exact e6
theorem not_ref {P : Program} {W : World} {T : Type} [DecidableEq T] {kd : KeyKind P W T} {en : Array DictEntry} (h : KeysOf kd en) : ∀ z ∈ en.toList, ∀ a, z.key ≠ .ref a := fun z hz a e => by
  obtain ⟨x, hx, _⟩ := h z (by simpa using hz)
  have t := kd.byValue x z.key hx
  rw [e] at t
  cases t
/-- the display's merge of a whole dict into another -/
theorem merge_kv {a b : Addr} {ps qs : List (K × Value)} {R : Unit → Shared → Prop} (hab : a ≠ b) (hb : (b == sysModules) = false) (Da : s.heap.DictOf knd a ps) (Db : s.heap.DictOf knd b qs)
    (hl : ps.length + qs.length ≤ sizeLine) (q : ∀ g, g.DictOf knd a (merged ps qs) → Heap.SameBut a s.heap g → R () { s with heap := g }) :
    wpAny (model prog w) A (mergeMapping a (.ref b) false) R E s := by
  obtain ⟨oa, ea, epa, a1, a2, a3, a4, a5, a6⟩ := id Da
  obtain ⟨ob, eb, epb, b1, b2, b3, b4, b5, b6⟩ := id Db
  have lenb : eb.size = qs.length := by rw [← b5.length, Array.length_toList]
  unfold mergeMapping
  refine wpAny_bind (wpAny_isInstance Db.typeIs isSubtype_dict_dict ?_)
  dsimp only
  simp only [if_true]
  refine wpAny_bind (wpAny_specialOf Db.typeIs F.slot_dict_iter.lookup (wpAny_bind (wpAny_pure ?_)))
  rw [show (some (Value.builtin "dict.__iter__") == some (Value.builtin "dict.__iter__")) = true from beq_self_eq_true _]
  simp only [hb, Bool.false_eq_true, if_false]
  refine wpAny_bind (wpAny_dictEntries a1 a3 ?_)
  have main : ∀ s0 : Shared, s0 = s → wpAny (model prog w) A (do
      let l ← dictEntries b
      let e0 ← dictEpoch b
      forIn (List.range l.size) PUnit.unit fun i (_ : PUnit) => (do
          let l2 ← dictEntries b
          match l2[i]? with
            | some z => do
              holding [z.key, z.val] (dictPut a z.hash z.key z.val)
              let e2 ← dictEpoch b
              if (e2 != e0) = true then do
                  (unsupported "dict.changed-during-merge" : Sem PUnit)
                  pure (ForInStep.yield PUnit.unit)
                else pure (ForInStep.yield PUnit.unit)
            | _ => do
              (unsupported "dict.changed-during-merge" : Sem PUnit)
              pure (ForInStep.yield PUnit.unit) : Sem (ForInStep PUnit))
      pure ()) R E s0 := by
    intro s0 e0
    rw [e0]
    clear e0 s0
    refine wpAny_bind (wpAny_dictEntries b1 b3 ?_)
    refine wpAny_bind (wpAny_dictEpoch b1 b3 ?_)
    refine wpAny_bind ?_
    rw [List.range_eq_range']
    refine wpAny_forIn_list _ (fun left _ t => ∃ g n, t = { s with heap := g } ∧ left = List.range' n (eb.size - n) ∧ n ≤ eb.size ∧ g.DictOf knd a (merged ps (qs.take n)) ∧ g.get? b = some ob ∧ Heap.SameBut a s.heap g)
      _ ?_ ?_ _ _ ⟨s.heap, 0, rfl, by simp, Nat.zero_le _, by simpa [merged] using Da, b1, Heap.SameBut.refl _ _⟩
    · rintro n0 left _ t ⟨g, n, rfl, hr, hn, Dg, bg, sg⟩
      have lt : n < eb.size := by
        refine Nat.lt_of_le_of_ne hn fun e => ?_
        rw [e, Nat.sub_self] at hr
        cases hr
      have hr2 : n0 :: left = n :: List.range' (n + 1) (eb.size - (n + 1)) := by
        rw [hr, show eb.size - n = (eb.size - (n + 1)) + 1 from by omega, List.range'_succ]
      injection hr2 with r1 r2
      subst r1
      refine wpAny_bind (wpAny_dictEntries bg b3 ?_)
      rw [Array.getElem?_eq_getElem lt]
      have ltq : n0 < qs.length := by omega
      obtain ⟨⟨x, y⟩, hq⟩ : ∃ z, qs[n0]? = some z := ⟨qs[n0]'ltq, List.getElem?_eq_getElem _⟩
      obtain ⟨hk, hv⟩ := b5.get? (e := eb[n0]) (by simp [lt]) hq
      obtain ⟨x2, hk2, hh⟩ := b4 eb[n0] (Array.getElem_mem lt)
      have ex : x2 = x := knd.inj _ _ _ hk2 hk
      subst ex
      have few : (merged ps (qs.take n0)).length ≤ sizeLine := by
        have t1 := merged_length_le ps (qs.take n0)
        rw [List.length_take] at t1
        omega
      show wpAny _ _ (holding [eb[n0].key, eb[n0].val] (dictPut a eb[n0].hash eb[n0].key eb[n0].val) >>= _) _ _ _
      rw [hh, hv]
      refine wpAny_bind (wpAny_holding (put_kv hk Dg few fun g2 D2 s2 => ?_))
      have bg2 : g2.get? b = some ob := (s2.2 b (Ne.symm hab)).trans bg
      refine wpAny_bind (wpAny_dictEpoch bg2 b3 ?_)
      rw [if_neg (by simp)]
      exact wpAny_pure ⟨g2, n0 + 1, rfl, r2, lt, by rw [merged_take_succ ps qs n0 (x2, y) hq]; exact D2, bg2, sg.trans s2⟩
    · rintro _ t ⟨g, n, rfl, hr, hn, Dg, bg, sg⟩
      have en : n = eb.size := by
        refine Nat.le_antisymm hn (Nat.le_of_not_lt fun lt => ?_)
        rw [show eb.size - n = (eb.size - (n + 1)) + 1 from by omega, List.range'_succ] at hr
        cases hr
      refine wpAny_pure (q g ?_ sg)
      rw [en, lenb, List.take_length] at Dg
      exact Dg
  split
  · refine wpAny_bind (wpAny_dictEntries b1 b3 ?_)
    refine wpAny_bind ?_
    rw [← Array.forIn_toList]
    refine wpAny_forIn_list _ (fun left _ t => t = s ∧ ∀ z ∈ left, ∀ c, z.key ≠ .ref c) _ ?_ ?_ _ _ ⟨rfl, not_ref b4⟩
    · rintro z left _ t ⟨rfl, hz⟩
      split
      · rename_i c hc
        exact absurd hc (hz z List.mem_cons_self c)
      · exact wpAny_pure ⟨rfl, fun z2 h2 => hz z2 (List.mem_cons_of_mem _ h2)⟩
    · rintro _ t ⟨ht, _⟩
      exact main t ht
  · exact main _ rfl
end
section
variable {prog : Program} {w : World} {K : Type} [DecidableEq K] {knd : KeyKind prog w K} {A : Around} {E : Value → Shared → Prop} {s : Shared}
theorem display_kv {m k v : Sem Value} {R : Value → Shared → Prop}
    (h : wpAny (model prog w) A m (fun x s1 => ∃ b qs, x = .ref b ∧ s.heap.objs.size ≠ b ∧ (b == sysModules) = false ∧ s1.heap.DictOf knd s.heap.objs.size [] ∧ s1.heap.DictOf knd b qs ∧ qs.length < sizeLine ∧
      ∀ g, g.DictOf knd s.heap.objs.size qs → Heap.SameBut s.heap.objs.size s1.heap g →
        wpAny (model prog w) A k (fun y s2 => wpAny (model prog w) A v (fun z s3 => s.heap.objs.size ≠ g.objs.size ∧ (g.objs.size == sysModules) = false ∧ s3.heap.DictOf knd g.objs.size [] ∧ ∃ rs, s3.heap.DictOf knd s.heap.objs.size rs ∧ rs.length < sizeLine ∧ ∃ x0, knd.is x0 y = true ∧
          ∀ g2 g3, g2.DictOf knd g.objs.size [(x0, z)] → Heap.SameBut g.objs.size s3.heap g2 → g3.DictOf knd s.heap.objs.size (stored rs x0 z) → Heap.SameBut s.heap.objs.size g2 g3 →
            R (.ref s.heap.objs.size) { s3 with heap := g3, toks := s3.toks + 1 }) E s2) E { s1 with heap := g.push { cls := .type "dict", data := .dict #[] } }) E
      { s with heap := s.heap.push { cls := .type "dict", data := .dict #[] } }) :
    wpAny (model prog w) A (dictDisplay [(none, m), (some k, v)]) R E s := by
  unfold dictDisplay
  dsimp only
  simp only [List.forIn_cons, List.forIn_nil, List.isEmpty_nil, if_true, pure_bind, bind_pure_comp, bind_assoc]
  refine wpAny_bind (wpAny_alloc ?_)
  refine wpAny_bind (wpAny_holding (wpAny_mono h (fun x s1 h1 => ?_) fun _ _ e => e))
  obtain ⟨b, qs, rfl, hb, hsm, d0, db, hl, h1⟩ := h1
  refine wpAny_bind (wpAny_map (wpAny_onRaise (wpAny_tryCatch (wpAny_onRaise (wpAny_holding (merge_kv (knd := knd) hb hsm d0 db ?_ fun g dg sg => ?_))))))
  · rw [List.length_nil]; omega
  have nd : (qs.map (·.1)).Nodup := let ⟨_, _, _, _, _, _, _, _, hn⟩ := db; hn
  rw [merged_nil_of_nodup qs nd] at dg
  have h2 := h1 g dg sg
  clear h1
  dsimp only
  simp only [List.nil_append, List.length_cons, List.length_nil, show ((0 + 1 : Nat) == 17) = false from rfl, Bool.false_eq_true, if_false, pure_bind, List.isEmpty_cons]
  refine wpAny_bind (wpAny_bind (wpAny_holding (wpAny_subDict (knd := knd) (show 1 ≤ 15 from by decide) (evalPairs_cons (wpAny_mono h2 (fun y s2 h3 => wpAny_mono h3 (fun z s3 h4 => evalPairs_nil ?_) fun _ _ e => e) fun _ _ e => e)))))
  obtain ⟨ne, lo, d3, rs, p3, hr, x0, hx, fin⟩ := h4
  refine ⟨[(x0, z)], ⟨hx, rfl, True.intro⟩, d3, fun g2 d2 s2' => wpAny_map (wpAny_onRaise (wpAny_holding (merge_kv (knd := knd) (ps := rs) (qs := [(x0, z)]) ne lo (p3.sameBut s2' ne) d2 ?_ fun g3 d3' s3' => wpAny_pure (fin g2 g3 d2 s2' d3' s3'))))⟩
  rw [List.length_singleton]
  omega
end
section
variable {X : Cx}
/-- {**d, k: v}: p the new dict, q the one of the pair behind it -/
def tDispD (td tk tv : TE) : TE := fun σ H Q => ∀ p, H p = none → td σ (upd H p (.dK [])) fun x H1 => ∃ a kvs, x = .ref a ∧ H1 a = some (.dK kvs) ∧ a ≠ p ∧ H1 p = some (.dK []) ∧ kvs.length < sizeLine ∧
  ∀ q, (upd H1 p (.dK kvs)) q = none → tk σ (upd (upd H1 p (.dK kvs)) q (.dK [])) fun y H2 => tv σ H2 fun z H3 => H3 p = some (.dK kvs) ∧ H3 q = some (.dK []) ∧ ∃ k, y = kV k ∧ Q (.ref p) (upd (upd H3 q (.dK [(k, z)])) p (.dK (putK kvs k z)))
theorem pe_dispD {d k v : Expr} {pos : Pos} {td tk tv : TE} (hd : PE X d td) (hk : PE X k tk) (hv : PE X v tv) : PE X (.Dict [none, some k] [d, v] pos) (tDispD td tk tv) := by
  refine ⟨fun pins s σ H Q I h => ?_⟩
  have hn := I.hok.fresh (Nat.le_refl s.heap.objs.size)
  have I1 := I.laid (a := s.heap.objs.size) (o := .dK []) (h' := s.heap.push { cls := .type "dict", data := .dict #[] }) (t' := s.toks) (fun _ _ q => Heap.get?_push_of_some _ q) (Nat.le_refl _) (dk_empty s.heap I.big)
  rw [arm_eval_Dict]
  refine wpAny_bind (wpAny_standAt ?_)
  show wpAny _ _ (dictDisplay [(none, do let x ← eval d X.env; standAt pos; pure x), (some (eval k X.env), do let x ← eval v X.env; standAt pos; pure x)]) _ _ _
  refine display_kv (knd := mixKind X.prog X.w) (wpAny_bind (thn (hd.run pins _ σ _ _ I1 (h _ hn)) fun u s1 ⟨x, H1, I2, rel, a, kvs, ex, ea, hap, ep, hl, q⟩ => wpAny_bind (wpAny_standAt (wpAny_pure ?_))))
  subst ex
  cases rel
  obtain ⟨z1, lo, vs, r1, da⟩ := dk_of I2.hok ea
  obtain ⟨z2, lo2, vs2, r2, dp⟩ := dk_of I2.hok ep
  cases r2
  refine ⟨a, vs, rfl, Ne.symm hap, lo, dp, da, by rw [← r1.length]; exact hl, fun g dg sg => ?_⟩
  have hz : kvs.length ≤ sizeLine := Nat.le_of_lt hl
  have stays : ∀ {g : Heap} {b : Addr} {ps : List (Key × Value)}, g.DictOf (mixKind X.prog X.w) b ps → ∃ q, g.get? b = some q := fun t => let ⟨q, _, _, hq, _⟩ := t; ⟨q, hq⟩
  have I3 : Inv X pins σ (upd H1 s.heap.objs.size (.dK kvs)) { s1 with heap := g, toks := s1.toks } := d_write I2 (by rw [ep]; exact True.intro) sg (stays dg) (dk_new hz lo2 r1 dg)
  have hn2 := I3.hok.fresh (Nat.le_refl g.objs.size)
  have I4 := I3.laid (a := g.objs.size) (o := .dK []) (h' := g.push { cls := .type "dict", data := .dict #[] }) (t' := s1.toks) (fun _ _ q => Heap.get?_push_of_some _ q) (Nat.le_refl _) (dk_empty g I3.big)
  refine thn (hk.run pins _ σ _ _ I4 (q _ hn2)) fun y s2 ⟨y', H2, I5, ry, q2⟩ => wpAny_bind (thn (hv.run pins s2 σ H2 _ I5 q2) fun w' s3 ⟨z', H3, I6, rz, hp, hq, k0, ek, q3⟩ => wpAny_bind (wpAny_standAt (wpAny_pure ?_)))
  subst ek
  obtain ⟨z4, lo4, vs4, r4, d4⟩ := dk_of I6.hok hq
  cases r4
  obtain ⟨z5, lo5, vs5, r5, d5⟩ := dk_of I6.hok hp
  have ne : s.heap.objs.size ≠ g.objs.size := fun e => by
    rw [← e, upd_same] at hn2
    cases hn2
  have hz5 : vs5.length < sizeLine := by rw [← r5.length]; exact hl
  refine ⟨ne, lo4, d4, vs5, d5, hz5, k0, kV_is ry, fun g2 g3 e2 t2 e3 t3 => ?_⟩
  have I7 : Inv X pins σ (upd H3 g.objs.size (.dK [(k0, z')])) { s3 with heap := g2, toks := s3.toks } :=
    d_write I6 (by rw [hq]; exact True.intro) t2 (stays e2) (dk_new (by rw [List.length_singleton, sizeLine_eq]; omega) lo4 (.cons ⟨rfl, rz⟩ .nil) e2)
  have I8 : Inv X pins σ (upd (upd H3 g.objs.size (.dK [(k0, z')])) s.heap.objs.size (.dK (putK kvs k0 z'))) { s3 with heap := g3, toks := s3.toks + 1 } := by
    have len := length_putK kvs k0 z'
    have t := d_write (t' := s3.toks + 1) I7 (by rw [upd_ne ne, hp]; exact True.intro) t3 (stays e3) (dk_new (by omega) lo5 (r5.put k0 rz) e3)
    exact t
  exact ⟨.ref s.heap.objs.size, _, I8, rfl, q3⟩
end
section
open PySem.W
variable {prog : Program} {w : World} {A : Around} {E : Value → Shared → Prop} {s : Shared} {T : String} {r d : Addr} {n : Nat} {P : Nat → Value → Prop} {OK : Heap → Prop}
/-- what a source of keys gives, gathered -/
theorem gather_src {R : List Value → Shared → Prop} (C : KdlSrc prog w T r d n P OK) (hh : A.handled = none) (ok : OK s.heap) (hn : n ≤ sizeLine)
    (q : ∀ (g : Heap) (tk : Nat) (got : Array Value), (∀ b o, s.heap.get? b = some o → g.get? b = some o) → ItemsOf P got n → R got.toList { s with heap := g, toks := tk }) : wpAny (model prog w) A (collect (.ref r)) R E s := by
  unfold collect
  refine wpAny_bind (wpAny_runValue (codeAny_builtin F.entry_proto_collect ?_))
  rw [Around.under_plainId F.plain_proto_collect _]
  show wpAny _ A.in1 (newList [] >>= fun l => again (.builtin "list.__iadd__" ⟨[l, .ref r], []⟩)) _ _ s
  refine wpAny_bind (wpAny_newObj_type (wpAny_pure ⟨plainId_quiet F.plain_list_iadd _, codeAny_builtin F.entry_list_iadd ?_⟩))
  rw [Around.under_plainId F.plain_list_iadd _]
  show wpAny _ A.in1 (Builtin.List.listExtendWith (.ref s.heap.objs.size) (.ref r) (.ref s.heap.objs.size)) _ _ _
  have lt := C.there _ ok
  have at0 : (s.heap.push { cls := .type "list", data := .seq ([] : List Value).toArray }).get? s.heap.objs.size = some { cls := .type "list", data := .seq #[] 0 } := Heap.get?_push_size _ rfl
  refine wpAny_mono (kdl_extend (A := A) (s := { s with heap := s.heap.push { cls := .type "list", data := .seq ([] : List Value).toArray } })
    (R := fun z t => z = .ok (.ret (.ref s.heap.objs.size)) ∧ ∃ (g : Heap) (tk : Nat) (got : Array Value) (c : Nat), t = { s with heap := g, toks := tk } ∧ (∀ b o, s.heap.get? b = some o → g.get? b = some o) ∧
      g.get? s.heap.objs.size = some { cls := .type "list", dict := none, data := .seq got c, slots := #[] } ∧ ItemsOf P got n)
    C hh (C.keep _ _ ok fun b _ o e => Heap.get?_push_of_some _ e) s.heap.objs.size (Nat.ne_of_gt lt.1) (Nat.ne_of_gt lt.2) _ 0 at0
    (fun g tk got c hk e hi => ⟨rfl, g, tk, got, c, rfl, fun b o u => hk b o (Nat.ne_of_lt (Heap.lt_size u)) (Heap.get?_push_of_some _ u), e, hi⟩) hn) (fun fin t h => ?_) fun e t h => ?_
  · cases fin with
    | done f =>
      obtain ⟨e, g, tk, got, c, rfl, hk, hS, hi⟩ := h
      cases e
      show wpAny _ A (load s.heap.objs.size >>= _) _ _ _
      exact wpAny_bind (wpAny_load hS (wpAny_pure (q g tk got hk hi)))
    | again c' =>
      refine ⟨h.1, codeAny_mono h.2 fun z t' h' => ?_⟩
      obtain ⟨rfl, g, tk, got, c, rfl, hk, hS, hi⟩ := h'
      show wpAny _ A (load s.heap.objs.size >>= _) _ _ _
      exact wpAny_bind (wpAny_load hS (wpAny_pure (q g tk got hk hi)))
  · exact absurd h.1 (by simp)
theorem new_tup_src {R : Value → Shared → Prop} (C : KdlSrc prog w T r d n P OK) (hh : A.handled = none) (ok : OK s.heap) (hn : n ≤ sizeLine)
    (q : ∀ (g : Heap) (tk : Nat) (got : Array Value), (∀ b o, s.heap.get? b = some o → g.get? b = some o) → ItemsOf P got n → R (.ref g.objs.size) { s with heap := g.push { cls := .type "tuple", data := .seq got }, toks := tk }) :
    codeAny (model prog w) A (.call (.builtin "tuple.__new__") ⟨[.type "tuple", .ref r], []⟩) (wants R E) s := by
  refine codeAny_of_tree ?_
  show wpAny _ A.in1 (do checkBuiltinCall "tuple.__new__" ⟨[.type "tuple", .ref r], []⟩; again (.builtin "tuple.__new__" ⟨[.type "tuple", .ref r], []⟩)) _ _ s
  refine wpAny_bind (wpAny_of_eq (F.newCall_tuple_1 _) (wpAny_pure ⟨plainId_quiet F.plain_tuple_new _, codeAny_builtin F.entry_tuple_new ?_⟩))
  rw [Around.under_plainId F.plain_tuple_new _]
  have t1 := sub_tuple_self
  have t2 := init_tuple_lookup
  have t3 := madeHere_tuple
  have t4 := C.type s ok
  have t5 : A.in1.handled = none := hh
  have t6 := C.notTuple
  have t7 := C.notList
  wp_walk using wpAny_typeOf t4, gather_src (A := A.in1) C t5 ok hn
  intro g tk got hk hi
  show wpAny _ _ (Builtin.Tuple.tupleExact got.toList.toArray >>= fun v => ret v) _ _ _
  have e : got.toList.toArray = got := by simp
  unfold Builtin.Tuple.tupleExact
  rw [e]
  exact wpAny_bind (wpAny_newObj_type (wpAny_pure (q g tk got hk hi)) (by show got.size ≤ sizeLine; rw [hi.1]; exact hn))
theorem call_tup_src {R : Value → Shared → Prop} (C : KdlSrc prog w T r d n P OK) (hh : A.handled = none) (ok : OK s.heap) (hn : n ≤ sizeLine)
    (q : ∀ (g : Heap) (tk : Nat) (got : Array Value), (∀ b o, s.heap.get? b = some o → g.get? b = some o) → ItemsOf P got n → R (.ref g.objs.size) { s with heap := g.push { cls := .type "tuple", data := .seq got }, toks := tk }) :
    wpAny (model prog w) A (call (.type "tuple") [.ref r]) R E s := by
  refine callType_codes (Q₁ := fun u t => t.TypeIs u "tuple" ∧ R u t) F.called_tuple (F.typeCall_tuple_1 _) F.entry_object_init
    (new_tup_src (A := A.in1) C hh ok hn fun g tk got hk hi => ⟨⟨_, Heap.get?_push_size _ rfl, rfl⟩, q g tk got hk hi⟩) fun u t h => ?_
  exact ⟨h.1, F.args_object_init_2 u _, object_init_meets F.called_tuple.init.lookup F.called_tuple.made (by decide) prog w A.in1 _ t ⟨h.1, rfl, h.2⟩⟩
end
section
variable {X : Cx}
/-- tuple(d): a dict's keys -/
theorem call_tupD (hc : X.calm = true) : CallR X (.type "tuple") (fun xs H Q => ∃ (a : Addr) (kvs : List (Key × V)), xs = [.ref a] ∧ Rd H a (.dK kvs) ∧ ∀ p, H p = none → Q (.ref p) (upd H p (.tup (kvs.map fun kv => kV kv.1)))) := by
  intro pins s σ H xs us Q I r q
  obtain ⟨a, kvs, ex, hd, q⟩ := q
  subst ex
  obtain ⟨u, eu, rx⟩ := vals1 r
  subst eu
  cases rx
  obtain ⟨z, lo, vs, rel, dd⟩ := dk_rd I.hok hd
  obtain ⟨ep, hat⟩ := dd.dictAt
  have same : (kvs.map fun kv => kV kv.1) = vs.map fun p => kV p.1 := by
    have t := congrArg (List.map kV) rel.keys
    rw [List.map_map, List.map_map] at t
    exact t
  refine call_tup_src (PySem.W.kdl_dict (knd := mixKind X.prog X.w) (kvs := vs) (ep := ep) lo) (I.ok.hd hc) hat (by rw [← rel.length]; exact z) fun g tk got hk hi => ?_
  have rv : Vals (vs.map fun p => kV p.1) got.toList := keys_at (by rw [Array.length_toList]; exact hi.1) fun j v t => hi.2 j v (by rw [← Array.getElem?_toList]; exact t)
  have I1 : Inv X pins σ H { s with heap := g, toks := tk } := I.kept (t' := tk) hk
  have I2 : Inv X pins σ (upd H g.objs.size (.tup (kvs.map fun kv => kV kv.1))) { s with heap := g.push { cls := .type "tuple", data := .seq got }, toks := tk } :=
    I1.laid (t' := tk) (fun b o e => Heap.get?_push_of_some _ e) (Nat.le_refl _) (show ObjOk X.prog X.w _ _ _ (.tup (kvs.map fun kv => kV kv.1)) from ⟨by rw [List.length_map]; exact z, got.toList, by rw [same]; exact rv, by
      have e : got.toList.toArray = got := by simp
      rw [e]
      exact IsTup.new _ _⟩)
  exact ⟨.ref g.objs.size, _, I2, rfl, q _ (I1.hok.fresh (Nat.le_refl _))⟩
end
end My

/-! My own rules: o.m(k = v, ..) where the method may raise; a comprehension over d.items(). -/
namespace My
open PySem PySem.Spec PyProof.Rows L2
section
variable {X : Cx} {CX : CXT} {k : Nat} {C f : Addr} {fd : FuncData} {ps : List Str} {sp : Sp} {E : L2.St → XK}
variable {ks : List Str} {g : List Value → List Value → List Value} {gV : List V → List V → List V} {o : Expr} {m : Str} {pos apos : Pos} {kws : List Keyword} {ta : TE} {tk : TA}
/-- o.m(k = v, ..), nothing by place, what is let out wished for at the caller's slots -/
def tMethKE (C : Addr) (m : Str) (sp : Sp) (gV : List V → List V → List V) (E : L2.St → XK) (ta : TE) (tk : TA) : TE := fun σ H Q => ta σ H fun x H1 => ∃ a dx fs, x = .ref a ∧ H1 a = some (.ins C dx fs) ∧ fs.lookup m = none ∧ tk σ H1 fun zs H2 => sp (gV [x] zs) H2 Q (E σ)
theorem pe_methKE {pl : Sem Bool} (he : PE X o ta) (c : Cls X.K C) (hm : Meth X.K C m f) (F : FnOk X.prog X.w X.K X.mg X.base CX k f fd ps sp) (hr : Room k X.A) (hb : KBinds X.K fd ps ks g gV) (hx : ∀ σ, PassesAt CX X σ (E σ)) (hkw : PK X kws tk)
    (hall : (backToKw pos (keywordEach kws X.env)).all (·.1.isSome) = true := by rfl) (hks : (backToKw pos (keywordEach kws X.env)).filterMap (·.1) = ks := by rfl)
    (hpl : ((backTo pos (starEach [] X.env)).any (·.1) || (backToKw pos (keywordEach kws X.env)).any (·.1.isNone)) = false := by rfl)
    (ht : eval (.Call (.Attribute o m apos) [] kws pos) X.env = (do
      let ov ← eval o X.env
      standAt apos.atName
      let (f, first) ← holding [ov] (getMethod ov m pl)
      callWith pos f first (backTo pos (starEach [] X.env)) (backToKw pos (keywordEach kws X.env))) := by rfl) :
    PE X (.Call (.Attribute o m apos) [] kws pos) (tMethKE C m sp gV E ta tk) := by
  refine ⟨fun pins s σ H Q I h => ?_⟩
  refine PySem.W.methodCall_KW (pl := pl) (thn (he.run pins s σ H _ I h) fun u s1 ⟨x, H1, I1, rx, a, dx, fs, ex, ea, l, q⟩ => ?_) ht
  subst ex
  obtain rfl : u = Value.ref a := rx
  refine getmeth_ok I1 ea c hm l ?_
  refine PySem.W.callWith_KW0 (first := [.ref a]) (h₀ := X.base) I.ok.mod.kin hm.kp hall (thn (hkw.run pos pins s1 σ H1 _ I1 q) fun ws s2 ⟨zs, H2, I2, rz, q2⟩ => ⟨I2.kIn, ?_⟩) hpl
  rw [hks]
  exact run_fnkS (us := [.ref a]) (vs := [.ref a]) F hr hb (hx σ) I2 (.cons rfl .nil) rz q2
end
/-- a dict's comprehension over the items of a dict that is locked -/
theorem dc_items {d : Addr} {o : Obj} {kvs : List (Key × V)} {g : TG} {tt : TT} {tk tv : TE} {vs : List Nat} {σ : L2.St} {H1 : Hp} {D : Addr} {Qd : Hp → Prop} (Pv : Nat → Hp → Prop) (h0 : Pv 0 (upd H1 D (.dK []))) (hl : ∀ i H, i ≤ kvs.length → Pv i H → H d = some (.frz o (.dK kvs)))
    (hs : ∀ i k v T H, kvs[i]? = some (k, v) → Pv i H → H T = none → g (.ref T) (wipe σ vs) (upd H T (.tup [kV k, v])) fun σ2 H2 => wipe σ2 vs = wipe σ vs ∧ tt σ2 H2 fun b H3 =>
      if b = true then tk σ2 H3 fun y H4 => tv σ2 H4 fun z H5 => ∃ kvs k, y = kV k ∧ H5 D = some (.dK kvs) ∧ kvs.length < sizeLine ∧ Pv (i + 1) (upd H5 D (.dK (putK kvs k z))) else Pv (i + 1) H3) (hd : ∀ H, Pv kvs.length H → Qd H) :
    ∃ W : Nat → Nat → Hp → Prop, (∃ m, W 0 m (upd H1 D (.dK []))) ∧ ∀ i m H, W i m H →
      ((Iti d o kvs).stop i H ∧ Qd H) ∨ ((Iti d o kvs).go i H ∧ ∃ Nx : Hp → Prop, (∀ H', Nx H' → ∃ m', m' < m ∧ W (i + 1) m' H') ∧ ∀ x H', (Iti d o kvs).yld i H x H' → g x (wipe σ vs) H' fun σ2 H2 => wipe σ2 vs = wipe σ vs ∧ tt σ2 H2 fun b H3 =>
        if b = true then tk σ2 H3 fun y H4 => tv σ2 H4 fun z H5 => ∃ kvs k, y = kV k ∧ H5 D = some (.dK kvs) ∧ kvs.length < sizeLine ∧ Nx (upd H5 D (.dK (putK kvs k z))) else Nx H3) := by
  refine ⟨fun i m H => m = kvs.length - i ∧ i ≤ kvs.length ∧ Pv i H, ⟨kvs.length, by simp, Nat.zero_le _, h0⟩, ?_⟩
  rintro i m H ⟨rfl, hi, p⟩
  have q := hl i H hi p
  rcases Nat.lt_or_ge i kvs.length with lt | ge
  · refine .inr ⟨⟨q, lt⟩, Pv (i + 1), fun H' p' => ⟨kvs.length - (i + 1), by omega, rfl, lt, p'⟩, ?_⟩
    rintro x H' ⟨T, k, v, e, rfl, nT, rfl⟩
    exact hs i k v T H e p nT
  · have e : i = kvs.length := by omega
    subst e
    exact .inl ⟨⟨q, Nat.le_refl _⟩, hd H p⟩
end My

/-! My own rules: raise X(), X an own exception class without an own __init__; o.m() that may raise. -/
namespace My
open PySem PySem.Spec PyProof.Rows L2
section
variable {X : Cx}
theorem pmk_own0 {C : Addr} {bmB : List Value} {B newId initId : String} {x : Str} {p pos : Pos} (F : ExcBaseFacts B newId initId bmB) (q : PySem.W.excIn X.K C bmB newId = true) (gC : X.mg x = some (.ref C)) (kC : PySem.W.keepIn X.K (.ref C) = true) (r : Raises X (.ref C)) (hg : Gl X x) (hdb : (x == ("__debug__" : Str)) = false := by decide) :
    PMk X (.Call (.Name x p) [] [] pos) (fun _ H Q => Q (.ref C) none H) := by
  intro pins s σ H Q I h
  refine wpAny_Call_Name_kw (ld_glob I hg gC ?_ hdb)
  refine PySem.W.callWith_KW0 (h₀ := X.base) I.ok.mod.kin kC (by rfl) (thn (pk_nil.run pos pins s σ H (fun vs H1 => vs = [] ∧ H1 = H) I ⟨rfl, rfl⟩) fun ws s2 ⟨zs, H2, I2, rz, ez, eH⟩ => ⟨I2.kIn, ?_⟩) (by rfl)
  subst eH
  show wpAny _ _ (call (.ref C) []) _ _ _
  obtain ⟨bm, N, nm, qn, bs, hdct, sn, sub, ab, col, dd, k0, k1, k2, k3, k5, mN, hC, hN, hni, T⟩ := exc_obj I2.kIn q
  exact wpAny_call_exc_subT F T hC hN hni (fun h' e hm => mk_of I2 hm r h (I2.hok.gone hm.new)) (Nat.zero_le _)
end
/-- the receiver alone -/
def kFst {α : Type} (us _ : List α) : List α := us
theorem kbinds_alone {K : PySem.W.Frag} {fd : FuncData} {p1 : Str} (h : ∀ (s : Shared) (u : Value), BindsTo s fd ⟨[u], []⟩ [(p1, u)]) : KBinds K fd [p1] [] kFst kFst where
  to := fun s us ws _ hl => match us, hl with
    | [u], _ => h s u
  rel := fun r _ => r
end My

/-! My own rules: dict comprehensions over a list, list comprehensions over d.items(). -/
namespace My
open PySem PySem.Spec PyProof.Rows L2
/-- {k: v for .. in xs}, xs a list that stays -/
theorem dc_list {K : PySem.W.Frag} {a : Addr} {xs : List V} {g : TG} {tt : TT} {tk tv : TE} {vs : List Nat} {σ : L2.St} {H1 : Hp} {D : Addr} {Qd : Hp → Prop} (Pv : Nat → Hp → Prop) (h0 : Pv 0 (upd H1 D (.dK []))) (hl : ∀ i H, i ≤ xs.length → Pv i H → SqL K H a xs)
    (hs : ∀ i x H, xs[i]? = some x → Pv i H → g x (wipe σ vs) H fun σ2 H2 => wipe σ2 vs = wipe σ vs ∧ tt σ2 H2 fun b H3 =>
      if b = true then tk σ2 H3 fun y H4 => tv σ2 H4 fun z H5 => ∃ kvs k, y = kV k ∧ H5 D = some (.dK kvs) ∧ kvs.length < sizeLine ∧ Pv (i + 1) (upd H5 D (.dK (putK kvs k z))) else Pv (i + 1) H3) (hd : ∀ H, Pv xs.length H → Qd H) :
    ∃ W : Nat → Nat → Hp → Prop, (∃ m, W 0 m (upd H1 D (.dK []))) ∧ ∀ i m H, W i m H →
      ((Itl K a).stop i H ∧ Qd H) ∨ ((Itl K a).go i H ∧ ∃ Nx : Hp → Prop, (∀ H', Nx H' → ∃ m', m' < m ∧ W (i + 1) m' H') ∧ ∀ x H', (Itl K a).yld i H x H' → g x (wipe σ vs) H' fun σ2 H2 => wipe σ2 vs = wipe σ vs ∧ tt σ2 H2 fun b H3 =>
        if b = true then tk σ2 H3 fun y H4 => tv σ2 H4 fun z H5 => ∃ kvs k, y = kV k ∧ H5 D = some (.dK kvs) ∧ kvs.length < sizeLine ∧ Nx (upd H5 D (.dK (putK kvs k z))) else Nx H3) := by
  refine ⟨fun i m H => m = xs.length - i ∧ i ≤ xs.length ∧ Pv i H, ⟨xs.length, by simp, Nat.zero_le _, h0⟩, ?_⟩
  rintro i m H ⟨rfl, hi, p⟩
  have q := hl i H hi p
  rcases Nat.lt_or_ge i xs.length with lt | ge
  · refine .inr ⟨⟨xs, xs[i], q, by simp [lt]⟩, Pv (i + 1), fun H' p' => ⟨xs.length - (i + 1), by omega, rfl, lt, p'⟩, fun x H' y => ?_⟩
    obtain ⟨e, y⟩ := y
    subst e
    exact hs i x _ (y xs q) p
  · have e : i = xs.length := by omega
    subst e
    exact .inl ⟨⟨xs, q, Nat.le_refl _⟩, hd H p⟩
/-- [e for k, v in d.items()], d locked -/
theorem lc_items {d : Addr} {o : Obj} {kvs : List (Key × V)} {g : TG} {tt : TT} {te : TE} {vs : List Nat} {σ : L2.St} {H1 : Hp} {D : Addr} {Qd : Hp → Prop} (Pv : Nat → Hp → Prop) (h0 : Pv 0 (upd H1 D (.lst []))) (hl : ∀ i H, i ≤ kvs.length → Pv i H → H d = some (.frz o (.dK kvs)))
    (hs : ∀ i k v T H, kvs[i]? = some (k, v) → Pv i H → H T = none → g (.ref T) (wipe σ vs) (upd H T (.tup [kV k, v])) fun σ2 H2 => wipe σ2 vs = wipe σ vs ∧ tt σ2 H2 fun b H3 =>
      if b = true then te σ2 H3 fun y H4 => ∃ acc, H4 D = some (.lst acc) ∧ acc.length < sizeLine ∧ Pv (i + 1) (upd H4 D (.lst (acc ++ [y]))) else Pv (i + 1) H3) (hd : ∀ H, Pv kvs.length H → Qd H) :
    ∃ W : Nat → Nat → Hp → Prop, (∃ m, W 0 m (upd H1 D (.lst []))) ∧ ∀ i m H, W i m H →
      ((Iti d o kvs).stop i H ∧ Qd H) ∨ ((Iti d o kvs).go i H ∧ ∃ Nx : Hp → Prop, (∀ H', Nx H' → ∃ m', m' < m ∧ W (i + 1) m' H') ∧ ∀ x H', (Iti d o kvs).yld i H x H' → g x (wipe σ vs) H' fun σ2 H2 => wipe σ2 vs = wipe σ vs ∧ tt σ2 H2 fun b H3 =>
        if b = true then te σ2 H3 fun y H4 => ∃ acc, H4 D = some (.lst acc) ∧ acc.length < sizeLine ∧ Nx (upd H4 D (.lst (acc ++ [y]))) else Nx H3) := by
  refine ⟨fun i m H => m = kvs.length - i ∧ i ≤ kvs.length ∧ Pv i H, ⟨kvs.length, by simp, Nat.zero_le _, h0⟩, ?_⟩
  rintro i m H ⟨rfl, hi, p⟩
  have q := hl i H hi p
  rcases Nat.lt_or_ge i kvs.length with lt | ge
  · refine .inr ⟨⟨q, lt⟩, Pv (i + 1), fun H' p' => ⟨kvs.length - (i + 1), by omega, rfl, lt, p'⟩, ?_⟩
    rintro x H' ⟨T, k, v, e, rfl, nT, rfl⟩
    exact hs i k v T H e p nT
  · have e : i = kvs.length := by omega
    subst e
    exact .inl ⟨⟨q, Nat.le_refl _⟩, hd H p⟩
end My

set_option maxHeartbeats 4000000
/-! My own rules: set(xs) of a list of texts, sorted of such a set. -/
namespace My
open PySem PySem.Spec PyProof.Rows L2
/-- the text of an entry -/
def txOf (e : Int × Value) : Str := match e.2 with | .str k _ => k | _ => Str.empty
def TxE (P : Program) (w : World) (e : Int × Value) : Prop := ∃ k tk, e.2 = Value.str k tk ∧ e.1 = (PySem.strKind P w).hash k
/-- the set at a: its members are the texts ks, some of them maybe twice there -/
def TxSet (P : Program) (w : World) (g : Heap) (a : Addr) (ks : List Str) : Prop :=
  ∃ ob rows ep tb, g.get? a = some ob ∧ ob.ExactSet ∧ ob.data = .set rows ep tb ∧ (∀ e ∈ rows.toList, TxE P w e) ∧ (rows.toList.map txOf).Nodup ∧ (∀ k, k ∈ rows.toList.map txOf ↔ k ∈ ks) ∧
    rows.size ≤ ks.length ∧ rows.size < scanBound ∧ tb.fits rows.size = true ∧ Ris tb.place.toList ∧ (w.params.followText "set-order" = true ∨ tb.led = true)
section
variable {P : Program} {w : World} {g g' : Heap} {a : Addr} {ks : List Str}
theorem TxSet.keep (R : TxSet P w g a ks) (k : ∀ o, g.get? a = some o → g'.get? a = some o) : TxSet P w g' a ks := by
  obtain ⟨ob, rows, ep, tb, ho, rest⟩ := R
  exact ⟨ob, rows, ep, tb, k ob ho, rest⟩
theorem tx_elems {l : List (Int × Value)} (g : ∀ e ∈ l, TxE P w e) : ElemsOf (PySem.strKind P w) l := fun e he => by
  obtain ⟨k, tk, h1, h2⟩ := g e he
  exact ⟨⟨k, by rw [h1]; exact strKind_is P w k tk, h2⟩, by rw [h1] <;> rfl⟩
theorem tx_is {e : Int × Value} (g : TxE P w e) (k : Str) : (PySem.strKind P w).is k e.2 = true ↔ txOf e = k := by
  obtain ⟨k0, tk, h1, _⟩ := g
  unfold txOf
  rw [h1, KeyKind.is_eq_decide (strKind_is P w k0 tk) k]
  simp only [decide_eq_true_eq]
  exact eq_comm
theorem tx_mem {l : List (Int × Value)} (g : ∀ e ∈ l, TxE P w e) (k : Str) : k ∈ l.map txOf ↔ ∃ e ∈ l, (PySem.strKind P w).is k e.2 = true := by
  rw [List.mem_map]
  constructor
  · rintro ⟨e, he, q⟩
    exact ⟨e, he, (tx_is (g e he) k).mpr q⟩
  · rintro ⟨e, he, q⟩
    exact ⟨e, he, (tx_is (g e he) k).mp q⟩
end
section
variable {P : Program} {w : World} {A : Around} {E : Value → Shared → Prop} {s : Shared} {a : Addr} {ks : List Str}
theorem tx_tail {gw : Bool → Sem Unit} (hgw : ∀ (b : Bool) (s₁ : Shared) (Q' : Unit → Shared → Prop), Q' () s₁ → wpAny (model P w) A (gw b) Q' E s₁)
    {ob : Obj} {rows : Array (Int × Value)} {ep : Nat} {tb : SetTable} (ho : s.heap.get? a = some ob) (hx : ob.ExactSet) (hd : ob.data = .set rows ep tb)
    {r1 : Array (Int × Value)} {t2 : SetTable} {ks' : List Str} (g1 : ∀ e ∈ r1.toList, TxE P w e) (nd1 : (r1.toList.map txOf).Nodup) (m1 : ∀ k, k ∈ r1.toList.map txOf ↔ k ∈ ks') (le1 : r1.size ≤ ks'.length)
    (hb1 : r1.size < scanBound) (hf2 : t2.fits r1.size = true) (hr : Ris t2.place.toList) (hl : w.params.followText "set-order" = true ∨ t2.led = true) {dm : Bool} {R : Option Bool → Shared → Prop}
    (hR : ∀ g', Heap.SameBut a s.heap g' → TxSet P w g' a ks' → R (some true) { s with heap := g' }) :
    wpAny (model P w) A (do
        storeSet a r1 t2
        if (!dm && t2.tooFull) = true then do
            gw (relayAll t2 r1 (SetTable.grown r1.size)).2.2
            storeSet a (relayAll t2 r1 (SetTable.grown r1.size)).1 (relayAll t2 r1 (SetTable.grown r1.size)).2.1
            pure (some true)
          else pure (some true)) R E s := by
  refine wpAny_bind (wpAny_storeSet_of ho hd ?_ (fits_of_scanBound hb1))
  have ho1 := store_at (es' := r1) (t' := t2) ho hd
  have sb1 := Heap.SameBut.update s.heap a (Obj.putSet r1 t2)
  split
  · have pm := relayAll_perm t2 r1 (SetTable.grown r1.size)
    have q1 := relayAll_fits t2 r1 (SetTable.grown r1.size)
    have q2 := relayAll_ris t2 r1 (SetTable.grown r1.size)
    have q3 := relayAll_led t2 r1 (SetTable.grown r1.size)
    generalize relayAll t2 r1 (SetTable.grown r1.size) = Z at pm q1 q2 q3 ⊢
    obtain ⟨r2, t3, gave⟩ := Z
    dsimp only at pm q1 q2 q3 ⊢
    have hsz : r2.size = r1.size := by rw [← Array.length_toList, pm.length_eq, Array.length_toList]
    have hb2 : r2.size < scanBound := hsz ▸ hb1
    refine wpAny_bind (hgw _ _ _ ?_)
    refine wpAny_bind (wpAny_storeSet_of ho1 rfl ?_ (fits_of_scanBound hb2))
    have ho2 := store_at (es' := r2) (t' := t3) ho1 rfl
    refine wpAny_pure (hR _ (sb1.trans (Heap.SameBut.update _ a _)) ?_)
    exact ⟨_, r2, _, t3, ho2, hx, rfl, fun e he => g1 e (pm.mem_iff.mp he), (pm.map txOf).nodup_iff.mpr nd1, fun k => (pm.map txOf).mem_iff.trans (m1 k), by rw [hsz]; exact le1, hb2, q1, q2,
      hl.imp id fun z => by rw [q3]; exact z⟩
  · exact wpAny_pure (hR _ sb1 ⟨_, r1, _, t2, ho1, hx, rfl, g1, nd1, m1, le1, hb1, hf2, hr, hl⟩)
theorem tx_add {k : Str} {tk : Tok} {Q : Bool → Shared → Prop} (R : TxSet P w s.heap a ks) (room : ks.length + 1 < scanBound)
    (hQ : ∀ b g', Heap.SameBut a s.heap g' → TxSet P w g' a (ks ++ [k]) → Q b { s with heap := g' }) :
    wpAny (model P w) A (setAddHashed a (.str k tk) ((PySem.strKind P w).hash k)) Q E s := by
  obtain ⟨ob, rows, ep, tb, ho, hx, hd, g, nd, hm, hle, hb, hf, hr, hl⟩ := R
  have hkey : (PySem.strKind P w).is k (.str k tk) = true := strKind_is P w k tk
  have hsc : (Value.str k tk).scannable = true := rfl
  have hel : ElemsOf (PySem.strKind P w) rows.toList := tx_elems g
  unfold setAddHashed setAddHashedIn
  refine wpAny_holding (wpAny_bind (wpAny_setState_of ho hd hf ?_))
  dsimp only
  rw [byScan_of hsc hb hel]
  simp only [↓reduceIte]
  unfold setAddByScan
  refine wpAny_bind ?_
  refine wpAny_bind (wpAny_rule ?_)
  refine wpAny_bind (wpAny_setScan_of hkey ho hd hf hel ?_)
  cases hfi : List.findIdx? (fun e => (PySem.strKind P w).is k e.2) rows.toList with
  | some j =>
    dsimp only
    obtain ⟨hj, pj, _⟩ := List.findIdx?_eq_some_iff_getElem.mp hfi
    have hk : k ∈ ks := (hm k).mp ((tx_mem (P := P) (w := w) g k).mpr ⟨rows.toList[j], List.getElem_mem hj, pj⟩)
    refine wpAny_pure (wpAny_pure ?_)
    refine hQ _ s.heap (Heap.SameBut.refl a s.heap) ⟨ob, rows, ep, tb, ho, hx, hd, g, nd, fun i => ?_, by rw [List.length_append]; omega, hb, hf, hr, hl⟩
    rw [hm i, List.mem_append, List.mem_singleton]
    exact ⟨.inl, fun z => z.elim id fun e => e ▸ hk⟩
  | none =>
    dsimp only
    have hnk : k ∉ rows.toList.map txOf := fun z => by
      obtain ⟨e, he, q⟩ := (tx_mem (P := P) (w := w) g k).mp z
      have c := List.findIdx?_eq_none_iff.mp hfi e he
      rw [q] at c
      cases c
    have hgw : ∀ (b : Bool) {s₁ : Shared} {Q' : Unit → Shared → Prop}, Q' () s₁ → wpAny (model P w) A (match b with | true => rule "set.scan.the-table-gave-way" | false => pure ()) Q' E s₁ :=
      fun b s₁ Q' q => by cases b <;> first | exact wpAny_pure q | exact wpAny_rule q
    have pm := layNew_perm tb rows ((PySem.strKind P w).hash k) (.str k tk)
    have q1 := layNew_fits tb rows ((PySem.strKind P w).hash k) (.str k tk)
    have q2 := layNew_ris tb rows ((PySem.strKind P w).hash k) (.str k tk) hr
    have q3 := layNew_led tb rows ((PySem.strKind P w).hash k) (.str k tk)
    generalize layNew tb rows ((PySem.strKind P w).hash k) (.str k tk) = Z at pm q1 q2 q3 ⊢
    obtain ⟨r1, t1, dm, gave⟩ := Z
    dsimp only at pm q1 q2 q3 ⊢
    rw [Array.toList_push] at pm
    have pc : r1.toList.Perm (((PySem.strKind P w).hash k, Value.str k tk) :: rows.toList) := pm.trans (List.perm_append_singleton _ _)
    have pk : (r1.toList.map txOf).Perm (k :: rows.toList.map txOf) := pc.map txOf
    have g1 : ∀ e ∈ r1.toList, TxE P w e := fun e he => by
      rcases List.mem_cons.mp (pc.mem_iff.mp he) with z | z
      · rw [z]; exact ⟨k, tk, rfl, rfl⟩
      · exact g e z
    have nd1 : (r1.toList.map txOf).Nodup := pk.nodup_iff.mpr (List.nodup_cons.mpr ⟨hnk, nd⟩)
    have m1 : ∀ i, i ∈ r1.toList.map txOf ↔ i ∈ ks ++ [k] := fun i => by
      rw [pk.mem_iff, List.mem_cons, hm i, List.mem_append, List.mem_singleton]
      exact Or.comm
    have hsz : r1.size = rows.size + 1 := by rw [← Array.length_toList, pc.length_eq, List.length_cons, Array.length_toList]
    have le1 : r1.size ≤ (ks ++ [k]).length := by rw [hsz, List.length_append]; show _ ≤ ks.length + 1; omega
    have hb1 : r1.size < scanBound := by omega
    have hled : w.params.followText "set-order" = true ∨ t1.led = true := hl.imp id fun z => by rw [q3]; exact z
    refine wpAny_bind (hgw _ ?_)
    split
    · refine wpAny_bind ?_
      rw [hashByValue_scannable 8 hsc]
      refine wpAny_pure ?_
      refine tx_tail ?_ ho hx hd g1 nd1 m1 le1 hb1 ?_ ?_ ?_ ?_
      · intro b s₁ Q' q; cases b <;> first | exact wpAny_pure q | exact wpAny_rule q
      · first | (split <;> first | exact q1 | exact SetTable.fits_plain_off q1) | exact q1
      · first | (split <;> exact q2) | exact q2
      · first | (split <;> exact hled) | exact hled
      · intro g' sb r; dsimp only; exact wpAny_pure (hQ _ g' sb r)
    · refine wpAny_bind (wpAny_pure ?_)
      simp only [↓reduceIte]
      refine tx_tail ?_ ho hx hd g1 nd1 m1 le1 hb1 q1 q2 hled ?_
      · intro b s₁ Q' q; cases b <;> first | exact wpAny_pure q | exact wpAny_rule q
      · intro g' sb r; dsimp only; exact wpAny_pure (hQ _ g' sb r)
theorem tx_fresh {g : Heap} (ks : List Str) (ho : g.get? a = some { cls := .type "set", dict := none, data := .set #[] 0 (.fresh 0 0 (!w.params.followText "set-order")) }) : TxSet P w g a (ks.take 0) :=
  ⟨_, #[], 0, _, ho, ⟨rfl, rfl, rfl⟩, rfl, (fun e he => by simp at he), (by simp), (fun k => by simp), Nat.zero_le _, (by decide), (by rfl), List.Pairwise.nil, by
    show _ ∨ (!w.params.followText "set-order") = true
    cases w.params.followText "set-order"
    · exact .inr rfl
    · exact .inl rfl⟩
theorem tx_update {I : Addr} {fp wr : List Addr} {G : Array GenState → Array GenState → Prop} {n : Nat} {Pv : Nat → Value → Prop} {St : Nat → Shared → Prop} {R : Result → Shared → Prop}
    (W : WalksS P w A.in1 I fp wr G n Pv St) (D : Addr) (hDf : D ∉ fp) (ks : List Str) (hn : n = ks.length) (hb : ks.length + 1 < scanBound) (hval : ∀ i v, Pv i v → ∃ k t, ks[i]? = some k ∧ v = .str k t) :
    ∀ (m i : Nat) (s : Shared), n - i = m → i ≤ n → St i s → TxSet P w s.heap D (ks.take i) →
      (∀ s', Moved (D :: wr) G s s' → TxSet P w s'.heap D ks → R (.ok (.ret .none)) s') →
      codeAny (model P w) A (.builtin "set.update.loop" ⟨[.ref D, .ref I], []⟩) R s := by
  have hDw : D ∉ wr := fun h => hDf (W.sub _ h)
  have sub : ∀ b ∈ wr, b ∈ D :: wr := fun b hb => List.mem_cons_of_mem _ hb
  intro m
  induction m with
  | zero =>
    intro i s hm hi hst hS hR
    obtain rfl : i = n := by omega
    refine codeAny_builtin F.entry_set_update_loop ?_
    rw [Around.under_plainId F.plain_set_update_loop _]
    show wpAny _ A.in1 (pyNext (.ref I) >>= _) _ _ s
    refine wpAny_bind (W.done s _ _ hst fun s' mv => ?_)
    show wpAny _ A.in1 (ret Value.none) _ _ s'
    have e : ks.take i = ks := List.take_of_length_le (by omega)
    rw [e] at hS
    exact wpAny_pure (hR s' (mv.mono sub) (hS.keep fun o e => mv.heap D o hDw e))
  | succ m ih =>
    intro i s hm hi hst hS hR
    have hlt : i < n := by omega
    refine codeAny_builtin F.entry_set_update_loop ?_
    rw [Around.under_plainId F.plain_set_update_loop _]
    show wpAny _ A.in1 (pyNext (.ref I) >>= _) _ _ s
    refine wpAny_bind (W.item i s _ _ hlt hst fun v s' hP hst' mv => ?_)
    obtain ⟨z, t, hz, rfl⟩ := hval i v hP
    have hS' : TxSet P w s'.heap D (ks.take i) := hS.keep fun o e => mv.heap D o hDw e
    show wpAny _ A.in1 (holding [Value.str z t] (setAdd D (.str z t)) >>= _) _ _ s'
    refine wpAny_bind (wpAny_holding ?_)
    unfold setAdd
    refine wpAny_holding ?_
    refine wpAny_bind ((PySem.strKind P w).pyHash (k := z) (strKind_is _ _ _ _) ?_)
    refine tx_add (s := { s' with toks := s'.toks + 1 }) hS' (by rw [List.length_take]; omega) fun b g' sb hS2 => ?_
    have e : ks.take i ++ [z] = ks.take (i + 1) := by rw [List.take_add_one, hz]; rfl
    rw [e] at hS2
    refine wpAny_pure ⟨plainId_quiet F.plain_set_update_loop _, ih (i + 1) _ (by omega) hlt (W.frame _ s' _ _ hst' (Nat.le_succ _) fun b hb o e => ?_) hS2 fun s'' mv2 hS3 => ?_⟩
    · rw [sb.2 b (fun h : b = D => hDf (by rw [← h]; exact hb))]; exact e
    · refine hR s'' (Moved.trans W.gtrans ((mv.mono sub).then_heap (Nat.le_succ _) fun b o hb e => ?_) mv2) hS3
      rw [sb.2 b (fun h : b = D => hb (by rw [h]; exact List.mem_cons_self))]; exact e
abbrev freshO (w : World) : Obj := { cls := .type "set", dict := none, data := .set #[] 0 (.fresh 0 0 (!w.params.followText "set-order")) }
set_option maxHeartbeats 6400000 in
theorem tx_set {l : Addr} {its : Array Value} (ks : List Str) {Q : Value → Shared → Prop} (hh : A.handled = none) (hl : s.heap.IsList l its) (hit : PyProof.Rows.StrsAre its.toList ks) (hb : ks.length + 1 < scanBound)
    (h : ∀ (g' : Heap) (tk : Nat), TxSet P w g' s.heap.objs.size ks → (∀ b o, s.heap.get? b = some o → g'.get? b = some o) → Q (.ref s.heap.objs.size) { s with heap := g', toks := tk }) :
    wpAny (model P w) A (call (.type "set") [.ref l]) Q E s := by
  have hsz : its.size = ks.length := by
    rw [← PyProof.Rows.StrsAre.len_eq hit, Array.length_toList]
  obtain ⟨c, tl, hmro⟩ := F.called_set.mro
  have hmade := F.called_set.made
  have hsub := F.called_set.sub
  refine wpAny_call (codeAny_of_tree ?_)
  show wpAny _ _ (callAny (.type "set") _) _ _ _
  refine wpAny_pure ⟨Code.quiet_builtin _ (by decide +kernel), codeAny_builtin F.entry_type_call ?_⟩
  rw [Around.under_plain (weight_type_call_type "set" [.ref l] []) rfl]
  have f1 := F.called_set.notType
  have f2 := F.called_set.canCreate
  have f3 := F.typeCall_set_1 (.ref l)
  repeat (any_goals (first | assumption | wp_step))
  generalize hO : ({ cls := .type "set", dict := none, data := .set #[] 0 (.fresh 0 0 (!w.params.followText "set-order")) } : Obj) = O
  refine codeAny_mono (code_set_led1 (.ref l) (E := E) (Q₁ := fun ob s₁ => ob = .ref s.heap.objs.size ∧ s₁ = { s with heap := s.heap.push O }) ⟨rfl, by rw [hO]⟩) fun r s₁ hr => ?_
  cases r with
  | error e => exact hr
  | ok fl =>
    cases fl with
    | ret ob =>
      obtain ⟨rfl, rfl⟩ := hr
      have hcO : O.cls = .type "set" := by rw [← hO]
      have hS : (s.heap.push O).get? s.heap.objs.size = some O := Heap.get?_push_size _ (by rw [← hO]; rfl)
      have hT : Shared.TypeIs { s with heap := s.heap.push O } (.ref s.heap.objs.size) "set" := ⟨_, hS, hcO⟩
      have f4 := F.called_set.init.lookup
      have f5 := F.called_set.init.bind (.ref s.heap.objs.size)
      repeat (any_goals (first | assumption | wp_step))
      refine codeAny_mono (codeAny_call_builtin (R := wants (fun r s₂ => r = .none ∧ ∃ g' tk, s₂ = { s with heap := g', toks := tk } ∧ TxSet P w g' s.heap.objs.size ks ∧
          (∀ b o, s.heap.get? b = some o → g'.get? b = some o)) E) F.called_set.init.plain F.entry_set_init (check_set_init_1 hT ?_)) fun r₂ s₂ hr₂ => ?_
      · subst hO
        obtain ⟨ol, hol, hcl, nl, hdl⟩ := hl
        obtain ⟨ocls, odict, odata, oslots⟩ := ol
        simp only at hcl hdl
        subst hcl; subst hdl
        have hol' : (s.heap.push (freshO w)).get? l = some { cls := .type "list", dict := odict, data := .seq its nl, slots := oslots } := Heap.get?_push_of_some _ hol
        have f6 := F.sub_list_set
        have f7 := F.sub_list_frozenset
        have f8 : (Value.type "list" == Value.type "dict") = false := by decide
        have hl1 : (s.heap.push (freshO w)).IsList l its := ⟨_, hol', rfl, nl, rfl⟩
        unfold Builtin.«set.__init__» noKeywords Builtin.Frozenset.updateFrom
        generalize hPI : pyIter = PI
        wp_walk
        subst hPI
        refine wpAny_pyIter_list hl1 ?_
        refine wpAny_bind (wpAny_runValue ?_)
        have hlt : l < s.heap.objs.size := Heap.lt_size hol
        have hh3 : A.in1.in1.in1.handled = none := by simp [hh]
        have hne : l ≠ (s.heap.push (freshO w)).objs.size := by
          rw [Heap.size_push]; exact Nat.ne_of_lt (Nat.lt_succ_of_lt hlt)
        have hDf : s.heap.objs.size ∉ [(s.heap.push (freshO w)).objs.size, l] := by
          rw [Heap.size_push]; simp only [List.mem_cons, List.mem_singleton, List.not_mem_nil, or_false, not_or]
          exact ⟨Nat.ne_of_lt (Nat.lt_succ_self _), Nat.ne_of_gt hlt⟩
        have hval : ∀ (i : Nat) (v : Value), its[i]? = some v → ∃ k t, ks[i]? = some k ∧ v = .str k t := fun i v hv => by
          have hi : i < ks.length := by rw [← hsz]; exact (Array.getElem?_eq_some_iff.mp hv).1
          obtain ⟨t, e⟩ := SS.strs_at hit i v (by rw [Array.getElem?_toList]; exact hv)
          refine ⟨ks[i], t, List.getElem?_eq_getElem hi, ?_⟩
          rw [e, List.getD_eq_getElem?_getD, List.getElem?_eq_getElem hi] <;> rfl
        refine tx_update ((Walks.list hh3 _ l hne its).toS) s.heap.objs.size
          hDf ks hsz hb hval (its.size - 0) 0 _ (by omega) (Nat.zero_le _)
          ⟨⟨_, Heap.get?_push_size _ rfl, rfl, rfl⟩, (hl1.push _)⟩ ?hS0 ?hR
        case hS0 =>
          have hget : ((s.heap.push (freshO w)).push { cls := .type "list_iterator", data := .fields #[.ref l, .int 0 0] }).get? s.heap.objs.size = some (freshO w) := Heap.get?_push_of_some _ hS
          exact tx_fresh ks hget
        case hR =>
          intro s' mv hS'
          obtain ⟨g', g2, d', tk', os'⟩ := s'
          have eg : g2 = s.gens := mv.gens
          have ed : d' = s.drawn := mv.drawn
          have eo : os' = s.os := mv.os
          subst eg; subst ed; subst eo
          show wpAny _ _ _ _ _ _
          refine wpAny_pure ?_
          show wpAny _ _ (ret Value.none) _ _ _
          refine wpAny_pure ⟨rfl, g', tk', rfl, hS', fun b o e => ?_⟩
          have hb0 : b < s.heap.objs.size := Heap.lt_size e
          have hb1 : b ≠ s.heap.objs.size := Nat.ne_of_lt hb0
          have hb2 : b ≠ (s.heap.push (freshO w)).objs.size := by
            rw [Heap.size_push]; exact Nat.ne_of_lt (Nat.lt_succ_of_lt hb0)
          exact mv.heap b o (by simp only [List.mem_cons, List.mem_singleton, List.not_mem_nil, or_false, not_or]; exact ⟨hb1, hb2⟩) (Heap.get?_push_of_some _ (Heap.get?_push_of_some _ e))
      · cases r₂ with
        | error e => exact hr₂
        | ok fl₂ =>
          cases fl₂ with
          | ret r =>
            obtain ⟨rfl, g', tk, rfl, hS', hk'⟩ := hr₂
            repeat (any_goals (first | assumption | wp_step))
            exact h _ _ hS' hk'
          | _ => exact hr₂.elim
    | _ => exact hr.elim
theorem tx_vals : ∀ (l : List Value), (∀ v ∈ l, ∃ k tk, v = Value.str k tk) → PyProof.Rows.StrsAre l (l.map fun v => txOf (0, v))
  | [], _ => .nil
  | v :: l, h => by
    obtain ⟨k, tk, rfl⟩ := h v List.mem_cons_self
    exact .cons k tk (tx_vals l fun v hv => h v (List.mem_cons_of_mem _ hv))
theorem tx_sorted {ks : List Str} {Q : Value → Shared → Prop} (R : TxSet P w s.heap a ks) (hh : A.handled = none) (h64 : ks.length < 64)
    (hQ : ∀ s' p (out : Array Value) (c : Nat) (ys : List Str), (∀ b o, s.heap.get? b = some o → s'.heap.get? b = some o) → s'.gens = s.gens → s'.os = s.os → s.heap.objs.size ≤ p →
      s'.heap.get? p = some (seqObj "list" out c) → PyProof.Rows.StrsAre out.toList ys → ys.Nodup → (∀ k, k ∈ ys ↔ k ∈ ks) → PyProof.Rows.sortedS ys = true → ys.length ≤ ks.length → Q (.ref p) s') :
    wpAny (model P w) A (call (.builtin "sorted") [.ref a]) Q E s := by
  obtain ⟨ob, rows, ep, tb, ho, hex, hd, g, nd, hm, hle, hb, hf, hr, hl⟩ := R
  refine Calls.call_function_entry kind_sorted plain_sorted entry_sorted (args_sorted1 _) ?_
  unfold Builtin.«sorted»
  refine wpAny_bind (m := checkCount "sorted" 1 1 _) (wpAny_pure ?_)
  refine wpAny_bind (collect_set (A := A.in1) hh ⟨ob, ho, hex.1, hd⟩ hf hb hr hl fun s1 vs k1 hz g1 o1 pm => ?_)
  have hvl : vs.length ≤ ks.length := by rw [pm.length_eq, List.length_map, Array.length_toList]; exact hle
  have hI := tx_vals vs fun v hv => by
    obtain ⟨e, he, q⟩ := List.mem_map.mp (pm.mem_iff.mp hv)
    obtain ⟨k, tk, h1, _⟩ := g e he
    exact ⟨k, tk, by rw [← q]; exact h1⟩
  have pk : (vs.map fun v => txOf (0, v)).Perm (rows.toList.map txOf) := by
    have q := pm.map fun v => txOf (0, v)
    rw [List.map_map] at q
    exact q
  refine wpAny_bind (wpAny_newList ?_ (by rw [sizeLine_eq]; omega))
  have hoL : (s1.heap.push (seqObj "list" vs.toArray 0)).get? s1.heap.objs.size = some (seqObj "list" vs.toArray 0) := Heap.get?_push_size _ rfl
  refine wpAny_bind (wpAny_holding (wpAny_call_entry slot_list_sort ⟨_, hoL, rfl⟩ entry_list_sort (list_sort_treeK strKind_oneLt hoL hI.keysOf (fun v₁ v₂ rest e => keyKind_strs (by rw [← e]; exact hI)) (by omega) fun st' a1 a2 => ⟨_, rfl, ?_⟩) (args_list_sort _)))
  obtain ⟨ys, b1, b2, b3⟩ := sorted_out_str hI a1 a2
  obtain ⟨c, hc⟩ := sortedHeap_at (vs := vs) (out := (arrOf st').map (·.2)) hoL
  have pn : ys.Perm (rows.toList.map txOf) := b2.trans pk
  refine wpAny_pure ⟨_, rfl, hQ _ s1.heap.objs.size _ c ys (fun b u e => ?_) g1 o1 hz hc b1 (pn.nodup_iff.mpr nd) (fun k => by rw [pn.mem_iff, hm k]) b3 ?_⟩
  · have q := k1 b u e
    have hlt := Heap.lt_size q
    show (sortedHeap (s1.heap.push (seqObj "list" vs.toArray 0)) s1.heap.objs.size vs _).get? b = some u
    rw [sortedHeap_old (Nat.ne_of_lt hlt) (by rw [size_push']; exact Nat.lt_succ_of_lt hlt)]
    exact Heap.get?_push_of_some _ q
  · rw [pn.length_eq, List.length_map, Array.length_toList]; exact hle
end
/-- the set of texts at a -/
def TxO (P : Program) (w : World) (a : Addr) (ks : List Str) : HO := .ext fun g => TxSet P w g a ks
section
variable {X : Cx}
theorem txO_new {P : Program} {w : World} {H : Hp} {g : Heap} {a : Addr} {ks : List Str} (R : TxSet P w g a ks) : ObjOk P w H g a (TxO P w a ks) := by
  have ⟨o, _, _, _, ho, _⟩ := R
  exact ⟨R, ⟨o, ho⟩, fun h1 h2 p k => TxSet.keep p k⟩
/-- set(xs), xs a list of texts -/
def rSetTx (K : PySem.W.Frag) (P : Program) (w : World) : List V → Hp → VK → Prop := fun xs H Q => ∃ (l : Addr) (ks : List Str), xs = [V.ref l] ∧ SqL K H l (ks.map V.str) ∧ ks.length < 4000 ∧
  ∀ a, H a = none → Q (.ref a) (upd H a (TxO P w a ks))
theorem cr_setTx (hc : X.calm = true) : CallR X (.type "set") (rSetTx X.K X.prog X.w) := by
  intro pins s σ H xs us Q I r h
  obtain ⟨l, ks, rfl, hl, hf, q⟩ := h
  rw [Vals.ref1 r]
  obtain ⟨its, rv, pl, hz⟩ := I.list hl
  have hn : H s.heap.objs.size = none := I.hok.fresh (Nat.le_refl _)
  refine tx_set (P := X.prog) (w := X.w) ks (I.ok.hd hc) pl.isList rv.strs (by unfold scanBound; omega) fun g' tk R k => ?_
  exact ⟨.ref s.heap.objs.size, upd H s.heap.objs.size (TxO X.prog X.w s.heap.objs.size ks), I.laid (t' := tk) k (Nat.le_refl _) (txO_new R), rfl, q _ hn⟩
/-- sorted of such a set -/
def rSortTx (P : Program) (w : World) : List V → Hp → VK → Prop := fun xs H Q => ∃ (a : Addr) (ks : List Str), xs = [V.ref a] ∧ H a = some (TxO P w a ks) ∧ ks.length < 64 ∧
  ∀ (ys : List Str) (p : Addr), ys.Nodup → (∀ k, k ∈ ys ↔ k ∈ ks) → PyProof.Rows.sortedS ys = true → ys.length ≤ ks.length → H p = none → Q (.ref p) (upd H p (.lst (ys.map V.str)))
theorem cr_sortTx (hc : X.calm = true) : CallR X (.builtin "sorted") (rSortTx X.prog X.w) := by
  intro pins s σ H xs us Q I r h
  obtain ⟨a, ks, rfl, ha, h64, q⟩ := h
  have R : TxSet X.prog X.w s.heap a ks := (I.hok a _ ha).1
  rw [Vals.ref1 r]
  refine tx_sorted R (I.ok.hd hc) h64 fun s' p out c ys k g o hp hg hi hnd hmem hso hle => ?_
  have hlen : (ys.map V.str).length ≤ sizeLine := by rw [List.length_map, sizeLine_eq]; omega
  have hn : H p = none := I.hok.fresh hp
  have J : Inv X pins σ (upd H p (.lst (ys.map V.str))) { s with heap := s'.heap, gens := s'.gens, drawn := s'.drawn, toks := s'.toks } :=
    I.call (ch := []) (Un.laid k hp hn) (I.hok.laid k hp ⟨hlen, out.toList, c, vals_of_strs hi, hg⟩) (by rw [g]; exact I.bare) (fun _ z => nomatch z)
  have e : s' = { s with heap := s'.heap, gens := s'.gens, drawn := s'.drawn, toks := s'.toks } := by
    cases s'
    cases s
    cases o
    rfl
  rw [e]
  exact ⟨.ref p, _, J, rfl, q ys p hnd hmem hso hle hn⟩
end
end My

/-! My own rules: a dict is locked, or was locked before; walks of locked dicts; two fors over a dict's values and each value's items. -/
namespace My
open PySem PySem.Spec PyProof.Rows L2
/-- as under a lock, where the thing may be locked before -/
def tMay (t : TS) : TS := fun D σ H => ∃ d u od, ∃ bk : Hp → Hp,
  ((H d = some u ∧ Mut (some u) ∧ bk = (fun H' => upd H' d u) ∧ ∀ od, t ⟨fun σ' H' => H' d = some (.frz od u) ∧ D.nx σ' (bk H'), fun v H' => H' d = some (.frz od u) ∧ D.rt v (bk H'), fun σ' H' => H' d = some (.frz od u) ∧ D.bk σ' (bk H'), fun σ' H' => H' d = some (.frz od u) ∧ D.ct σ' (bk H')⟩ σ (upd H d (.frz od u))) ∨
    (H d = some (.frz od u) ∧ bk = id ∧ t ⟨fun σ' H' => H' d = some (.frz od u) ∧ D.nx σ' (bk H'), fun v H' => H' d = some (.frz od u) ∧ D.rt v (bk H'), fun σ' H' => H' d = some (.frz od u) ∧ D.bk σ' (bk H'), fun σ' H' => H' d = some (.frz od u) ∧ D.ct σ' (bk H')⟩ σ H))
section
variable {X : Cx}
theorem ps_may {st : Stmt} {t : TS} (h : PS X st t) : PS X st (tMay t) := by
  refine ⟨fun pins s σ H D I hw => ?_⟩
  obtain ⟨d, u, od, bk, ⟨hd, mu, rfl, hw⟩ | ⟨hd, rfl, hw⟩⟩ := hw
  · exact (ps_lock h).run pins s σ H D I ⟨d, u, hd, mu, hw⟩
  · refine thn (h.run pins s σ _ _ I hw) fun f s1 q => ?_
    cases f with
    | next => obtain ⟨σ', H', I2, _, q⟩ := q; exact ⟨σ', H', I2, q⟩
    | brk => obtain ⟨σ', H', I2, _, q⟩ := q; exact ⟨σ', H', I2, q⟩
    | cont => obtain ⟨σ', H', I2, _, q⟩ := q; exact ⟨σ', H', I2, q⟩
    | ret v => obtain ⟨x, σ', H', I2, r, _, q⟩ := q; exact ⟨x, σ', H', I2, r, q⟩
end
theorem may_ask {t : TS} {D : Ends} {σ : L2.St} {H : Hp} {d : Addr} {kvs : List (Key × V)} (hd : Rd H d (.dK kvs))
    (k : ∀ od Hl, ∀ bk : Hp → Hp, Hl d = some (.frz od (.dK kvs)) → (∀ c, c ≠ d → Hl c = H c) → (∀ H' c, c ≠ d → bk H' c = H' c) → (∀ H', H' d = some (.frz od (.dK kvs)) → bk H' d = H d) →
      t ⟨fun σ' H' => H' d = some (.frz od (.dK kvs)) ∧ D.nx σ' (bk H'), fun v H' => H' d = some (.frz od (.dK kvs)) ∧ D.rt v (bk H'), fun σ' H' => H' d = some (.frz od (.dK kvs)) ∧ D.bk σ' (bk H'), fun σ' H' => H' d = some (.frz od (.dK kvs)) ∧ D.ct σ' (bk H')⟩ σ Hl) : tMay t D σ H := by
  rcases hd with hd | ⟨o, hd⟩
  · exact ⟨d, _, default, _, .inl ⟨hd, trivial, rfl, fun od => k od _ _ upd_same (fun c h => upd_ne h) (fun H' c h => upd_ne h) fun H' _ => by rw [hd]; exact upd_same⟩⟩
  · exact ⟨d, _, o, _, .inr ⟨hd, rfl, k o H id hd (fun c _ => rfl) (fun H' c _ => rfl) fun H' e => by rw [hd]; exact e⟩⟩
section
variable {d : Addr} {o : Obj} {kvs : List (Key × V)} {g : TG} {tb : TS} {D : Ends} {σ : L2.St} {H : Hp}
theorem for_vals (Pv : Nat → L2.St → Hp → Prop) (h0 : Pv 0 σ H) (hl : ∀ i σ H, i ≤ kvs.length → Pv i σ H → H d = some (.frz o (.dK kvs)))
    (hs : ∀ i k v σ H, kvs[i]? = some (k, v) → Pv i σ H → g v σ H fun σ2 H2 => tb { D with nx := Pv (i + 1), ct := Pv (i + 1), bk := D.nx } σ2 H2) (hd : ∀ σ H, Pv kvs.length σ H → D.nx σ H) :
    ∃ W : Nat → Nat → L2.St → Hp → Prop, (∃ m, W 0 m σ H) ∧ ∀ i m σ H, W i m σ H →
      ((Itd d o kvs).stop i H ∧ D.nx σ H) ∨ ((Itd d o kvs).go i H ∧ ∃ N : L2.St → Hp → Prop, (∀ σ' H', N σ' H' → ∃ m', m' < m ∧ W (i + 1) m' σ' H') ∧ ∀ x H', (Itd d o kvs).yld i H x H' → g x σ H' fun σ2 H2 => tb { D with nx := N, ct := N, bk := D.nx } σ2 H2) := by
  refine ⟨fun i m σ H => m = kvs.length - i ∧ i ≤ kvs.length ∧ Pv i σ H, ⟨kvs.length, by simp, Nat.zero_le _, h0⟩, ?_⟩
  rintro i m σ H ⟨rfl, hi, p⟩
  have q := hl i σ H hi p
  rcases Nat.lt_or_ge i kvs.length with lt | ge
  · refine .inr ⟨⟨q, lt⟩, Pv (i + 1), fun σ' H' p' => ⟨kvs.length - (i + 1), by omega, rfl, lt, p'⟩, ?_⟩
    rintro x H' ⟨rfl, k, e⟩
    exact hs i k x σ _ e p
  · have e : i = kvs.length := by omega
    subst e
    exact .inl ⟨⟨q, Nat.le_refl _⟩, hd σ H p⟩
theorem for_ents (Pv : Nat → L2.St → Hp → Prop) (h0 : Pv 0 σ H) (hl : ∀ i σ H, i ≤ kvs.length → Pv i σ H → H d = some (.frz o (.dK kvs)))
    (hs : ∀ i k v T σ H, kvs[i]? = some (k, v) → Pv i σ H → H T = none → g (.ref T) σ (upd H T (.tup [kV k, v])) fun σ2 H2 => tb { D with nx := Pv (i + 1), ct := Pv (i + 1), bk := D.nx } σ2 H2) (hd : ∀ σ H, Pv kvs.length σ H → D.nx σ H) :
    ∃ W : Nat → Nat → L2.St → Hp → Prop, (∃ m, W 0 m σ H) ∧ ∀ i m σ H, W i m σ H →
      ((Iti d o kvs).stop i H ∧ D.nx σ H) ∨ ((Iti d o kvs).go i H ∧ ∃ N : L2.St → Hp → Prop, (∀ σ' H', N σ' H' → ∃ m', m' < m ∧ W (i + 1) m' σ' H') ∧ ∀ x H', (Iti d o kvs).yld i H x H' → g x σ H' fun σ2 H2 => tb { D with nx := N, ct := N, bk := D.nx } σ2 H2) := by
  refine ⟨fun i m σ H => m = kvs.length - i ∧ i ≤ kvs.length ∧ Pv i σ H, ⟨kvs.length, by simp, Nat.zero_le _, h0⟩, ?_⟩
  rintro i m σ H ⟨rfl, hi, p⟩
  have q := hl i σ H hi p
  rcases Nat.lt_or_ge i kvs.length with lt | ge
  · refine .inr ⟨⟨q, lt⟩, Pv (i + 1), fun σ' H' p' => ⟨kvs.length - (i + 1), by omega, rfl, lt, p'⟩, ?_⟩
    rintro x H' ⟨T, k, v, e, rfl, nT, rfl⟩
    exact hs i k v T σ H e p nT
  · have e : i = kvs.length := by omega
    subst e
    exact .inl ⟨⟨q, Nat.le_refl _⟩, hd σ H p⟩
theorem for_keys (Pv : Nat → L2.St → Hp → Prop) (h0 : Pv 0 σ H) (hl : ∀ i σ H, i ≤ kvs.length → Pv i σ H → H d = some (.frz o (.dK kvs)))
    (hs : ∀ i k v σ H, kvs[i]? = some (k, v) → Pv i σ H → g (kV k) σ H fun σ2 H2 => tb { D with nx := Pv (i + 1), ct := Pv (i + 1), bk := D.nx } σ2 H2) (hd : ∀ σ H, Pv kvs.length σ H → D.nx σ H) :
    ∃ W : Nat → Nat → L2.St → Hp → Prop, (∃ m, W 0 m σ H) ∧ ∀ i m σ H, W i m σ H →
      ((Itk d o kvs).stop i H ∧ D.nx σ H) ∨ ((Itk d o kvs).go i H ∧ ∃ N : L2.St → Hp → Prop, (∀ σ' H', N σ' H' → ∃ m', m' < m ∧ W (i + 1) m' σ' H') ∧ ∀ x H', (Itk d o kvs).yld i H x H' → g x σ H' fun σ2 H2 => tb { D with nx := N, ct := N, bk := D.nx } σ2 H2) := by
  refine ⟨fun i m σ H => m = kvs.length - i ∧ i ≤ kvs.length ∧ Pv i σ H, ⟨kvs.length, by simp, Nat.zero_le _, h0⟩, ?_⟩
  rintro i m σ H ⟨rfl, hi, p⟩
  have q := hl i σ H hi p
  rcases Nat.lt_or_ge i kvs.length with lt | ge
  · refine .inr ⟨⟨q, lt⟩, Pv (i + 1), fun σ' H' p' => ⟨kvs.length - (i + 1), by omega, rfl, lt, p'⟩, ?_⟩
    rintro x H' ⟨rfl, k, v, e, rfl⟩
    exact hs i k v σ _ e p
  · have e : i = kvs.length := by omega
    subst e
    exact .inl ⟨⟨q, Nat.le_refl _⟩, hd σ H p⟩
end
/-- the outer for of two: over a locked dict's values -/
theorem lc2_vals {d : Addr} {o : Obj} {kvs : List (Key × V)} {g : TG} {vs : List Nat} {σ : L2.St} {H1 : Hp} {D : Addr} {Qd : Hp → Prop} {R : L2.St → Hp → (Hp → Prop) → Prop} (Pv : Nat → Hp → Prop) (h0 : Pv 0 (upd H1 D (.lst []))) (hl : ∀ i H, i ≤ kvs.length → Pv i H → H d = some (.frz o (.dK kvs)))
    (hs : ∀ i k v H, kvs[i]? = some (k, v) → Pv i H → g v (wipe σ vs) H fun σ2 H2 => wipe σ2 vs = wipe σ vs ∧ R σ2 H2 (Pv (i + 1))) (hd : ∀ H, Pv kvs.length H → Qd H) :
    ∃ W : Nat → Nat → Hp → Prop, (∃ m, W 0 m (upd H1 D (.lst []))) ∧ ∀ i m H, W i m H →
      ((Itd d o kvs).stop i H ∧ Qd H) ∨ ((Itd d o kvs).go i H ∧ ∃ Nx : Hp → Prop, (∀ H', Nx H' → ∃ m', m' < m ∧ W (i + 1) m' H') ∧ ∀ x H', (Itd d o kvs).yld i H x H' → g x (wipe σ vs) H' fun σ2 H2 => wipe σ2 vs = wipe σ vs ∧ R σ2 H2 Nx) := by
  refine ⟨fun i m H => m = kvs.length - i ∧ i ≤ kvs.length ∧ Pv i H, ⟨kvs.length, by simp, Nat.zero_le _, h0⟩, ?_⟩
  rintro i m H ⟨rfl, hi, p⟩
  have q := hl i H hi p
  rcases Nat.lt_or_ge i kvs.length with lt | ge
  · refine .inr ⟨⟨q, lt⟩, Pv (i + 1), fun H' p' => ⟨kvs.length - (i + 1), by omega, rfl, lt, p'⟩, ?_⟩
    rintro x H' ⟨rfl, k, e⟩
    exact hs i k x _ e p
  · have e : i = kvs.length := by omega
    subst e
    exact .inl ⟨⟨q, Nat.le_refl _⟩, hd H p⟩
/-- the inner for of two: over a tuple -/
theorem lc2_tup {K : PySem.W.Frag} {a : Addr} {xs : List V} {Nx : Hp → Prop} {H4 : Hp} {R : V → Hp → (Hp → Prop) → Prop} (Pv : Nat → Hp → Prop) (h0 : Pv 0 H4) (hl : ∀ i H, i ≤ xs.length → Pv i H → SqT K H a xs)
    (hs : ∀ i x H, xs[i]? = some x → Pv i H → R x H (Pv (i + 1))) (hd : ∀ H, Pv xs.length H → Nx H) :
    ∃ W : Nat → Nat → Hp → Prop, (∃ m, W 0 m H4) ∧ ∀ j k H, W j k H →
      ((Itt K a).stop j H ∧ Nx H) ∨ ((Itt K a).go j H ∧ ∃ Nx1 : Hp → Prop, (∀ H', Nx1 H' → ∃ k', k' < k ∧ W (j + 1) k' H') ∧ ∀ x H', (Itt K a).yld j H x H' → R x H' Nx1) := by
  refine ⟨fun i m H => m = xs.length - i ∧ i ≤ xs.length ∧ Pv i H, ⟨xs.length, by simp, Nat.zero_le _, h0⟩, ?_⟩
  rintro i m H ⟨rfl, hi, p⟩
  have q := hl i H hi p
  rcases Nat.lt_or_ge i xs.length with lt | ge
  · refine .inr ⟨⟨xs, xs[i], q, by simp [lt]⟩, Pv (i + 1), fun H' p' => ⟨xs.length - (i + 1), by omega, rfl, lt, p'⟩, fun x H' y => ?_⟩
    obtain ⟨e, y⟩ := y
    subst e
    exact hs i x _ (y xs q) p
  · have e : i = xs.length := by omega
    subst e
    exact .inl ⟨⟨xs, q, Nat.le_refl _⟩, hd H p⟩
/-- a, b, c = a tuple or a list -/
def gSeq (K : PySem.W.Frag) (n : Nat) (t : TGs) : TG := fun v σ H Q => gTup K n t v σ H Q ∨ gLst K n t v σ H Q
theorem pg_seq {X : Cx} {pos : Pos} {es : List Expr} {k : Nat} {t : TGs} {n : Nat} (hc : X.calm = true) (h : PGs X es t)
    (hn : (assignEach es X.env).length = n := by rfl) (hst : (assignEach es X.env).findIdx? (·.1) = none := by rfl) : PG X (.Tuple es k pos) (gSeq X.K n t) :=
  ⟨fun pins s σ H v u Q I r hw => hw.elim ((pg_tup hc h hn hst).run pins s σ H v u Q I r) ((pg_lst hc h hn hst).run pins s σ H v u Q I r)⟩
/-- a for over a list or a tuple that stays -/
theorem for_seq {K : PySem.W.Frag} {a : Addr} {xs : List V} {g : TG} {tb : TS} {D : Ends} {σ : L2.St} {H H0 : Hp} (hq : SqL K H0 a xs ∨ SqT K H0 a xs) (Pv : Nat → L2.St → Hp → Prop) (h0 : Pv 0 σ H)
    (hl : ∀ i σ H', Pv i σ H' → (SqL K H0 a xs → SqL K H' a xs) ∧ (SqT K H0 a xs → SqT K H' a xs))
    (hs : ∀ i x σ H, xs[i]? = some x → Pv i σ H → g x σ H fun σ2 H2 => tb { D with nx := Pv (i + 1), ct := Pv (i + 1), bk := D.nx } σ2 H2) (hd : ∀ σ H, Pv xs.length σ H → D.nx σ H) :
    ((∃ xs, SqL K H a xs) ∧ ∃ W : Nat → Nat → L2.St → Hp → Prop, (∃ m, W 0 m σ H) ∧ ∀ i m σ H, W i m σ H →
      ((Itl K a).stop i H ∧ D.nx σ H) ∨ ((Itl K a).go i H ∧ ∃ N : L2.St → Hp → Prop, (∀ σ' H', N σ' H' → ∃ m', m' < m ∧ W (i + 1) m' σ' H') ∧ ∀ x H', (Itl K a).yld i H x H' → g x σ H' fun σ2 H2 => tb { D with nx := N, ct := N, bk := D.nx } σ2 H2)) ∨
    ((∃ xs, SqT K H a xs) ∧ ∃ W : Nat → Nat → L2.St → Hp → Prop, (∃ m, W 0 m σ H) ∧ ∀ i m σ H, W i m σ H →
      ((Itt K a).stop i H ∧ D.nx σ H) ∨ ((Itt K a).go i H ∧ ∃ N : L2.St → Hp → Prop, (∀ σ' H', N σ' H' → ∃ m', m' < m ∧ W (i + 1) m' σ' H') ∧ ∀ x H', (Itt K a).yld i H x H' → g x σ H' fun σ2 H2 => tb { D with nx := N, ct := N, bk := D.nx } σ2 H2)) := by
  rcases hq with hq | hq
  · exact .inl ⟨⟨_, (hl 0 σ H h0).1 hq⟩, for_list Pv h0 (fun i σ H' _ p => (hl i σ H' p).1 hq) hs hd⟩
  · exact .inr ⟨⟨_, (hl 0 σ H h0).2 hq⟩, for_tup Pv h0 (fun i σ H' _ p => (hl i σ H' p).2 hq) hs hd⟩
/-- {k: v for .. in xs}, xs a tuple that stays -/
theorem dc_tup {K : PySem.W.Frag} {a : Addr} {xs : List V} {g : TG} {tt : TT} {tk tv : TE} {vs : List Nat} {σ : L2.St} {H1 : Hp} {D : Addr} {Qd : Hp → Prop} (Pv : Nat → Hp → Prop) (h0 : Pv 0 (upd H1 D (.dK []))) (hl : ∀ i H, i ≤ xs.length → Pv i H → SqT K H a xs)
    (hs : ∀ i x H, xs[i]? = some x → Pv i H → g x (wipe σ vs) H fun σ2 H2 => wipe σ2 vs = wipe σ vs ∧ tt σ2 H2 fun b H3 =>
      if b = true then tk σ2 H3 fun y H4 => tv σ2 H4 fun z H5 => ∃ kvs k, y = kV k ∧ H5 D = some (.dK kvs) ∧ kvs.length < sizeLine ∧ Pv (i + 1) (upd H5 D (.dK (putK kvs k z))) else Pv (i + 1) H3) (hd : ∀ H, Pv xs.length H → Qd H) :
    ∃ W : Nat → Nat → Hp → Prop, (∃ m, W 0 m (upd H1 D (.dK []))) ∧ ∀ i m H, W i m H →
      ((Itt K a).stop i H ∧ Qd H) ∨ ((Itt K a).go i H ∧ ∃ Nx : Hp → Prop, (∀ H', Nx H' → ∃ m', m' < m ∧ W (i + 1) m' H') ∧ ∀ x H', (Itt K a).yld i H x H' → g x (wipe σ vs) H' fun σ2 H2 => wipe σ2 vs = wipe σ vs ∧ tt σ2 H2 fun b H3 =>
        if b = true then tk σ2 H3 fun y H4 => tv σ2 H4 fun z H5 => ∃ kvs k, y = kV k ∧ H5 D = some (.dK kvs) ∧ kvs.length < sizeLine ∧ Nx (upd H5 D (.dK (putK kvs k z))) else Nx H3) := by
  refine ⟨fun i m H => m = xs.length - i ∧ i ≤ xs.length ∧ Pv i H, ⟨xs.length, by simp, Nat.zero_le _, h0⟩, ?_⟩
  rintro i m H ⟨rfl, hi, p⟩
  have q := hl i H hi p
  rcases Nat.lt_or_ge i xs.length with lt | ge
  · refine .inr ⟨⟨xs, xs[i], q, by simp [lt]⟩, Pv (i + 1), fun H' p' => ⟨xs.length - (i + 1), by omega, rfl, lt, p'⟩, fun x H' y => ?_⟩
    obtain ⟨e, y⟩ := y
    subst e
    exact hs i x _ (y xs q) p
  · have e : i = xs.length := by omega
    subst e
    exact .inl ⟨⟨xs, q, Nat.le_refl _⟩, hd H p⟩
/-- {k: v for .. in xs}, xs a list or a tuple that stays -/
theorem dc_seq {K : PySem.W.Frag} {a : Addr} {xs : List V} {g : TG} {tt : TT} {tk tv : TE} {vs : List Nat} {σ : L2.St} {H1 H0 : Hp} {Qd : Addr → Hp → Prop} (hq : SqL K H0 a xs ∨ SqT K H0 a xs) (h1 : Same H0 H1) (Pv : Addr → Nat → Hp → Prop) (h0 : ∀ D, H1 D = none → Pv D 0 (upd H1 D (.dK []))) (hl : ∀ D i H', Pv D i H' → Same H0 H')
    (hs : ∀ D, H1 D = none → ∀ i x H, xs[i]? = some x → Pv D i H → g x (wipe σ vs) H fun σ2 H2 => wipe σ2 vs = wipe σ vs ∧ tt σ2 H2 fun b H3 =>
      if b = true then tk σ2 H3 fun y H4 => tv σ2 H4 fun z H5 => ∃ kvs k, y = kV k ∧ H5 D = some (.dK kvs) ∧ kvs.length < sizeLine ∧ Pv D (i + 1) (upd H5 D (.dK (putK kvs k z))) else Pv D (i + 1) H3) (hd : ∀ D H, H1 D = none → Pv D xs.length H → Qd D H) :
    ((∃ xs, SqL K H1 a xs) ∧ ∀ D, H1 D = none → ∃ W : Nat → Nat → Hp → Prop, (∃ m, W 0 m (upd H1 D (.dK []))) ∧ ∀ i m H, W i m H →
      ((Itl K a).stop i H ∧ Qd D H) ∨ ((Itl K a).go i H ∧ ∃ Nx : Hp → Prop, (∀ H', Nx H' → ∃ m', m' < m ∧ W (i + 1) m' H') ∧ ∀ x H', (Itl K a).yld i H x H' → g x (wipe σ vs) H' fun σ2 H2 => wipe σ2 vs = wipe σ vs ∧ tt σ2 H2 fun b H3 =>
        if b = true then tk σ2 H3 fun y H4 => tv σ2 H4 fun z H5 => ∃ kvs k, y = kV k ∧ H5 D = some (.dK kvs) ∧ kvs.length < sizeLine ∧ Nx (upd H5 D (.dK (putK kvs k z))) else Nx H3)) ∨
    ((∃ xs, SqT K H1 a xs) ∧ ∀ D, H1 D = none → ∃ W : Nat → Nat → Hp → Prop, (∃ m, W 0 m (upd H1 D (.dK []))) ∧ ∀ i m H, W i m H →
      ((Itt K a).stop i H ∧ Qd D H) ∨ ((Itt K a).go i H ∧ ∃ Nx : Hp → Prop, (∀ H', Nx H' → ∃ m', m' < m ∧ W (i + 1) m' H') ∧ ∀ x H', (Itt K a).yld i H x H' → g x (wipe σ vs) H' fun σ2 H2 => wipe σ2 vs = wipe σ vs ∧ tt σ2 H2 fun b H3 =>
        if b = true then tk σ2 H3 fun y H4 => tv σ2 H4 fun z H5 => ∃ kvs k, y = kV k ∧ H5 D = some (.dK kvs) ∧ kvs.length < sizeLine ∧ Nx (upd H5 D (.dK (putK kvs k z))) else Nx H3)) := by
  rcases hq with hq | hq
  · exact .inl ⟨⟨_, h1.seq hq⟩, fun D hD => dc_list (Pv D) (h0 D hD) (fun i H' _ p => (hl D i H' p).seq hq) (hs D hD) fun H p => hd D H hD p⟩
  · exact .inr ⟨⟨_, sqT_on h1 hq⟩, fun D hD => dc_tup (Pv D) (h0 D hD) (fun i H' _ p => sqT_on (hl D i H' p) hq) (hs D hD) fun H p => hd D H hD p⟩
/-- o.m(k1 = a, k2 = b), the names turned round -/
def kSwap {α : Type} : List α → List α → List α
  | [u], [a, b] => [u, b, a]
  | _, _ => []
theorem kbinds_swap {K : PySem.W.Frag} {fd : FuncData} {p0 p1 p2 k1 k2 : Str} (h : ∀ (s : Shared) (u a b : Value), BindsTo s fd ⟨[u], [(k1, a), (k2, b)]⟩ [(p0, u), (p1, b), (p2, a)]) : KBinds K fd [p0, p1, p2] [k1, k2] kSwap kSwap where
  to := fun s us ws _ hl => match us, ws, hl with
    | [u], [a, b], _ => h s u a b
    | [], _, hl => by simp [kSwap] at hl
    | [_], [], hl => by simp [kSwap] at hl
    | [_], [_], hl => by simp [kSwap] at hl
    | [_], _ :: _ :: _ :: _, hl => by simp [kSwap] at hl
    | _ :: _ :: _, _, hl => by simp [kSwap] at hl
  rel := fun {vs us zs ws} r rz => match vs, us, zs, ws, r, rz with
    | [_], [_], [_, _], [_, _], .cons a .nil, .cons b (.cons c .nil) => .cons a (.cons c (.cons b .nil))
    | [], [], _, _, .nil, _ => by simp only [kSwap]; exact .nil
    | [_], [_], [], [], .cons _ .nil, .nil => .nil
    | [_], [_], [_], [_], .cons _ .nil, .cons _ .nil => .nil
    | [_], [_], _ :: _ :: _ :: _, _ :: _ :: _ :: _, .cons _ .nil, .cons _ (.cons _ (.cons _ _)) => .nil
    | _ :: _ :: _, _ :: _ :: _, _, _, .cons _ (.cons _ _), _ => by simp only [kSwap]; exact .nil
end My

/-! My own rule: sorted(xs), xs a list of tuples of three texts. -/
namespace My
open PySem PySem.Spec PyProof.Rows L2
abbrev RowB := Addr × (Str × Str × Str)
def rowE (e : Str × Str × Str) : PyData := .tuple [.str e.1, .str e.2.1, .str e.2.2]
noncomputable def rowLe : RowB → RowB → Bool := PySem.W.dataLe false fun b => rowE b.2
theorem alike_rowE (a b : Str × Str × Str) : PySem.W.alike (rowE a) (rowE b) = true := by
  unfold rowE
  simp [PySem.W.alike, PySem.W.alikeAll]
theorem depth_rowE (a : Str × Str × Str) : (rowE a).depth ≤ 1 := by
  unfold rowE
  simp [PyData.depth, PyData.depthAll]
theorem each_refs {K : PySem.W.Frag} {X : Cx} {pins : List (Addr × Obj)} {σ : L2.St} {H : Hp} {s : Shared} (I : Inv X pins σ H s) : ∀ {bs : List RowB} {us : List Value}, Vals (bs.map fun b => V.ref b.1) us → (∀ b ∈ bs, SqT X.K H b.1 [.str b.2.1, .str b.2.2.1, .str b.2.2.2]) →
    PySem.W.EachIs (fun v b => v = Value.ref b.1) us bs ∧ PySem.W.EachIs (fun v b => ∃ as, Reads s.heap v (rowE b.2) as) us bs
  | [], _, .nil, _ => ⟨.nil, .nil⟩
  | b :: bs, _, .cons r t, h => by
    have r : _ = Value.ref b.1 := r
    subst r
    obtain ⟨e1, e2⟩ := each_refs (K := K) I t fun c hc => h c (List.mem_cons_of_mem _ hc)
    exact ⟨.cons rfl e1, .cons (Dp.reads I _ (V.ref b.1) _ (.tup (h b List.mem_cons_self) (.cons (.str _) (.cons (.str _) (.cons (.str _) .nil)))) rfl) e2⟩
theorem vals_each : ∀ {us : List Value} {bs : List RowB}, PySem.W.EachIs (fun v b => v = Value.ref b.1) us bs → Vals (bs.map fun b => V.ref b.1) us
  | _, _, .nil => .nil
  | _, _, .cons h t => .cons h (vals_each t)
section
variable {X : Cx}
def rSortRows (K : PySem.W.Frag) : List V → Hp → VK → Prop := fun vs H Q => ∃ (a : Addr) (bs : List RowB), vs = [V.ref a] ∧ SqL K H a (bs.map fun b => V.ref b.1) ∧ (∀ b ∈ bs, SqT K H b.1 [.str b.2.1, .str b.2.2.1, .str b.2.2.2]) ∧
  ∀ p, H p = none → Q (.ref p) (upd H p (.lst ((bs.mergeSort rowLe).map fun b => V.ref b.1)))
theorem cr_sortRows (hu : X.A.units + 64 < cLine) : CallR X (.builtin "sorted") (rSortRows X.K) := by
  intro pins s σ H vs us Q I r h
  obtain ⟨a, bs, rfl, hs, hb, q⟩ := h
  obtain ⟨its, rv, hl, hz⟩ := I.list hs
  rw [Vals.ref1 r]
  obtain ⟨e1, e2⟩ := each_refs (K := X.K) I rv hb
  have hlen : bs.length ≤ sizeLine := by rw [List.length_map] at hz; exact hz
  refine PySem.W.sorted_data (enc := fun b : RowB => rowE b.2) hl.isList e1 e2 (PySem.W.AllAlike.of fun b b' => alike_rowE b.2 b'.2) (PySem.W.Sortable.tuples fun b => ⟨_, _, rfl⟩) hlen (fun b _ => by have := depth_rowE b.2; omega) fun out ho e3 => ?_
  obtain ⟨ep, he'⟩ := PyProof.Rows.sortedAll_at s.heap its out.toArray
  have hl2 : ((bs.mergeSort rowLe).map fun b : RowB => V.ref b.1).length ≤ sizeLine := by rw [List.length_map, (List.mergeSort_perm bs rowLe).length_eq]; exact hlen
  exact ⟨.ref _, upd H (s.heap.objs.size + 1) (.lst ((bs.mergeSort rowLe).map fun b => V.ref b.1)), I.laid (t' := s.toks) (fun _ _ => PyProof.Rows.sortedAll_old) (Nat.le_succ _) ⟨hl2, out, ep, vals_each e3, he'⟩, rfl, q _ (I.hok.fresh (Nat.le_succ _))⟩
end
end My

/-! My own rule: for i, x in enumerate(xs, start=k), xs a list, k a whole number that is written there. -/
namespace My
open PySem PySem.Spec PyProof.Rows L2
open PySem.Calls
section
variable {M : Model} {A : Around} {E : Value → Shared → Prop} {s : Shared} {env : Env}
theorem callWith_typeKw {pos : Pos} {T : String} {first : List Value} {args : List (Bool × Sem Value)} {keywords : List (Option Str × Sem Value)} {Q : Value → Shared → Prop}
    (hplain : args.any (·.1) = false) (hkw : keywords.any (·.1.isNone) = false)
    (h : wpAny M A (evalArgs (.type T) true args keywords) (fun a s₁ => wpAny M A (call (.type T) (first ++ a.pos) a.kw) Q E s₁) E s) :
    wpAny M A (callWith pos (.type T) first args keywords) Q E s := by
  unfold callWith
  refine wpAny_bind (wpAny_holding (wpAny_mono h (fun a s₁ h₁ => wpAny_bind (wpAny_standAt ?_)) fun _ _ x => x))
  simp only [hplain, hkw, Bool.or_false]
  refine wpAny_bind (wpAny_pure ?_)
  exact wpAny_bind (wpAny_mono h₁ (fun r s₂ hr => wpAny_bind (wpAny_holding (wpAny_point (wpAny_pure hr)))) fun _ _ x => x)
theorem callWith_typeKw1 {pos : Pos} {T : String} {e : Expr} {rest : List Expr} {kws : List Keyword} {Q : Value → Shared → Prop}
    (h : wpAny M A (spliced (backTo pos (starEach (e :: rest) env))) (fun vs s₁ => wpAny M A (evalAll ((backToKw pos (keywordEach kws env)).map (·.2)))
      (fun kvs s₂ => wpAny M A (call (.type T) vs (((backToKw pos (keywordEach kws env)).filterMap (·.1)).zip kvs)) Q E s₂) E s₁) E s)
    (he : backTo pos (starEach (e :: rest) env) = (false, eval e env) :: backTo pos (starEach rest env) := by rfl)
    (hplain : (backTo pos (starEach (e :: rest) env)).any (·.1) = false := by rfl)
    (hall : (backToKw pos (keywordEach kws env)).all (·.1.isSome) = true := by rfl)
    (hkw : (backToKw pos (keywordEach kws env)).any (·.1.isNone) = false := by rfl) :
    wpAny M A (callWith pos (.type T) [] (backTo pos (starEach (e :: rest) env)) (backToKw pos (keywordEach kws env))) Q E s := by
  refine callWith_typeKw hplain hkw ?_
  rw [he] at h ⊢
  exact evalArgs_kwB hall h
end
/-- a list's items from its first, each with its number, the first one's being k -/
def ItS (K : PySem.W.Frag) (a : Addr) (k : Int) : It where
  go i H := ∃ ys v, SqL K H a ys ∧ ys[i]? = some v
  yld i H v H' := ∃ (pr : Addr) (z : V), v = V.ref pr ∧ H pr = none ∧ H' = upd H pr (HO.tup [V.int (k + (i : Int)), z]) ∧ ∀ ys, SqL K H a ys → ys[i]? = some z
  stop i H := ∃ ys : List V, SqL K H a ys ∧ ys.length ≤ i
/-- the counter at c over the list's iterator at j, at its i-th turn -/
def CntAt (c j a : Addr) (k : Int) (i : Nat) (h : Heap) : Prop := c ≠ j ∧ h.IsListIter j a i ∧ ∃ last, IsEnum h c j (k + (i : Int)) last
theorem two_cells {α : Type} {p : α → Prop} {x y : α} (hx : p x) (hy : p y) : ∀ b ∈ [x, y], p b := by
  simp only [List.mem_cons, List.not_mem_nil, or_false]
  rintro b (rfl | rfl)
  · exact hx
  · exact hy
theorem turn_count {P : Program} {w : World} {K : PySem.W.Frag} {es : List Expr} {n : Nat} {ps : Pos} (a c j : Addr) (k : Int) :
    Turn P w K (.Tuple es n ps) (ItS K a k) [c, j] c (CntAt c j a k) where
  mem := List.mem_cons_self
  obj i h st := two_cells (p := fun b => ∃ o, h.get? b = some o ∧ ∀ v, o.data ≠ .cell v) ⟨_, st.2.2.choose_spec, fun _ q => nomatch q⟩ (by
    obtain ⟨o, h1, _, h2⟩ := st.2.1
    exact ⟨o, h1, fun _ q => by rw [h2] at q; nomatch q⟩)
  keep i h h' st f := ⟨st.1, st.2.1.at fun o => f j (by simp) o, st.2.2.imp fun l q => f c (by simp) _ q⟩
  item := by
    rintro X rfl rfl rfl calm i pins s σ H E I low ⟨cj, hj, l, hc⟩ ⟨ys, v, hys, hv⟩
    obtain ⟨arr, rel, lst, _⟩ := I.list hys
    obtain ⟨u, hu, ruv⟩ := rel.get hv
    have aj : a ≠ j := fun z => by
      obtain ⟨o1, g1, k1, _⟩ := hj
      obtain ⟨o2, g2, k2, _⟩ := lst.isList
      rw [z, g1] at g2
      rw [Option.some.inj g2, k2] at k1
      revert k1
      decide
    have lc := Heap.lt_size hc
    have lj : j < s.heap.objs.size := let ⟨_, q, _⟩ := hj; Heap.lt_size q
    have ca : c ≠ a := fun z => by
      obtain ⟨o2, g2, k2, _⟩ := lst.isList
      have g1 := (show s.heap.get? c = _ from hc)
      rw [z, g2] at g1
      rw [Option.some.inj g1] at k2
      exact absurd (Value.type.inj k2) (by decide)
    have la : c ∉ [j, a] := by simp [cj, ca]
    refine wpAny_pyNext_enum_itemC (Draws.list (A := X.A.in1) (I.ok.hd calm) j a aj arr.toArray) hc ⟨hj, lst.isList⟩ ?_ cj la ?_
    · have := (List.getElem?_eq_some_iff.mp hu).1
      simpa using this
    intro x h1 tk hx out st1 new sz oth
    obtain rfl : u = x := by
      have hx : arr.toArray[i]? = some x := hx
      rw [List.getElem?_toArray, hu] at hx
      exact Option.some.inj hx
    refine ⟨_, rfl, wpAny_letOwnedTupleGo_enum (s := { s with heap := h1, toks := tk + 1 }) out fun h2 cnt same => ?_⟩
    have got : h2.get? s.heap.objs.size = some { cls := .type "tuple", data := .seq #[.int (k + (i : Int)) tk, u] } := (same.2 _ (Nat.ne_of_gt lc)).trans new
    have stays : ∀ b o, b ∉ [c, j] → s.heap.get? b = some o → h2.get? b = some o := fun b o hb q => by
      simp only [List.mem_cons, List.not_mem_nil, or_false, not_or] at hb
      exact (same.2 b hb.1).trans (oth b o hb.1 hb.2 q)
    have mine : ObjOk X.prog X.w (upd H s.heap.objs.size (HO.tup [V.int (k + (i : Int)), v])) h2 s.heap.objs.size (HO.tup [V.int (k + (i : Int)), v]) := ⟨by show 2 ≤ sizeLine; decide, _, .cons ⟨_, rfl⟩ (.cons ruv .nil), ⟨_, got, rfl, _, rfl⟩⟩
    have I2 := I.turnedNew (t' := tk + 1) stays low (Nat.le_refl _) mine
    exact ⟨V.ref s.heap.objs.size, _, I2, rfl, ⟨_, v, rfl, I.hok.fresh (Nat.le_refl _), rfl, fun zs hzs => by rw [I.list_inj hzs hys]; exact hv⟩, ⟨cj, st1.1.at fun o q => (same.2 j (Ne.symm cj)).trans q, u, by rw [show k + ((i + 1 : Nat) : Int) = k + (i : Int) + 1 by omega]; exact cnt⟩, two_cells (p := fun b => (upd H s.heap.objs.size _) b = none) (by rw [upd_ne (Nat.ne_of_lt lc)]; exact (low c (by simp)).1) (by rw [upd_ne (Nat.ne_of_lt lj)]; exact (low j (by simp)).1)⟩
  done := by
    rintro X rfl rfl rfl calm i pins s σ H E I low ⟨cj, hj, l, hc⟩ ⟨ys, hys, hle⟩
    obtain ⟨arr, rel, lst, _⟩ := I.list hys
    have aj : a ≠ j := fun z => by
      obtain ⟨o1, g1, k1, _⟩ := hj
      obtain ⟨o2, g2, k2, _⟩ := lst.isList
      rw [z, g1] at g2
      rw [Option.some.inj g2, k2] at k1
      revert k1
      decide
    have over : arr.toArray[i]? = none := by
      rw [List.getElem?_toArray, List.getElem?_eq_none_iff, ← rel.length]
      exact hle
    obtain ⟨f0, f1, f2, f3, f4, f5⟩ := low j (by simp)
    have D : Draws X.prog X.w X.A.in1 j [j, a] i (fun _ _ => True) (fun m h => m = i ∧ h.IsListIter j a m ∧ h.IsList a arr.toArray) :=
      { live := fun m h st => let ⟨o, g, _⟩ := st.2.1; ⟨o, g⟩
        frame := fun m h h' st f => ⟨st.1, st.2.1.at fun o => f j (by simp) o, st.2.2.at fun o => f a (by simp) o⟩
        item := fun m _ _ _ hm st _ => absurd st.1 (Nat.ne_of_lt hm)
        done := fun s' Q' E' st hE => wpAny_nextOf_list_end (I.ok.hd calm) st.2.1 st.2.2 (by rw [st.1]; exact over) hE }
    exact wpAny_pyNext_enum_endD D hc ⟨rfl, hj, lst.isList⟩ fun h' eb => ⟨rfl, I.turned (t' := s.toks) eb f0 f1 f3 f4 f5⟩
  self A i s Q E st q := wpAny_pyIter_enum st.2.2.choose_spec q
def iEnumS (K : PySem.W.Frag) (k : Int) (ta : TA) : TI := fun σ H R => ta σ H fun vs H1 => ∃ a xs, vs = [.ref a] ∧ SqL K H1 a xs ∧ R (ItS K a k) H1
theorem pi_enumS {X : Cx} {e : Expr} {ta : TA} {p pos tpos kp cp : Pos} {elts : List Expr} {kk : Nat} {k : Int} {c : Nat} (hg : Gl X "enumerate") (hm : X.mg "enumerate" = none) (ha : PA X [e] ta) (hk0 : -(2 ^ 63) ≤ k) (hk1 : k < 2 ^ 63) (he : backTo pos (starEach [e] X.env) = (false, eval e X.env) :: backTo pos (starEach [] X.env) := by rfl) (hpl : (backTo pos (starEach [e] X.env)).any (·.1) = false := by rfl) :
    PI X (.Tuple elts kk tpos) (.Call (.Name "enumerate" p) [e] [⟨some "start", .Constant (.int k) c cp, kp⟩] pos) (iEnumS X.K k ta) := by
  refine ⟨fun pins s σ H R I h => ?_⟩
  refine wpAny_Call_Name_kw (ld_blt I hg hm boot_enumerate ?_)
  refine callWith_typeKw1 (thn (ha.run pos pins s σ H _ I h) fun us s1 ⟨vs, H1, I1, r1, q1⟩ => ?_) he hpl
  obtain ⟨a, xs, ex, hq, q⟩ := q1
  subst ex
  cases r1 with
  | cons r rr =>
    cases rr
    cases r
    obtain ⟨arr, rel, lst, _⟩ := I1.list hq
    refine kwAll_cons (thn ((pe_int (X := X)).run pins s1 σ H1 (fun x H' => x = V.int k ∧ H' = H1) I1 ⟨rfl, rfl⟩) fun u s2 ⟨y, H2, I2, ry, ey, eh⟩ => ?_)
    subst ey eh
    obtain ⟨t, rfl⟩ := ry
    refine kwAll_nil ?_
    show wpAny _ _ (call (.type "enumerate") [.ref a] [(Str.ofString "start", .int k t)]) _ _ _
    obtain ⟨arr2, rel2, lst2, _⟩ := I2.list hq
    refine enum_begins_start (begins_list a arr2.toArray) lst2.isList hk0 hk1 fun h' cnt at0 sz old => wpAny_pyIter_enum cnt ?_
    refine ⟨s2.heap.objs.size + 1, [s2.heap.objs.size + 1, s2.heap.objs.size], _, _, H2, rfl, I2.kept (t' := s2.toks) old, turn_count a (s2.heap.objs.size + 1) s2.heap.objs.size k, ⟨Nat.succ_ne_self _, ⟨_, at0, rfl, rfl⟩, _, by rw [show k + ((0 : Nat) : Int) = k from Int.add_zero k]; exact cnt⟩, ?_, q⟩
    exact two_cells (p := fun b => FpOk X pins H2 b) (I2.fpOk (Nat.le_succ _) (I2.hok.fresh (Nat.le_succ _))) (I2.fpOk (Nat.le_refl _) (I2.hok.fresh (Nat.le_refl _)))
end My

/-! My own rule: o == a text, o an instance whose class has its own __eq__. -/
namespace My
open PySem PySem.Spec PyProof.Rows L2
section
variable {X : Cx} {k : Nat} {C f : Addr} {fd : FuncData} {ps : List Str} {sp : Sp} {CX : CXT} {E : XK}
def rOS (C : Addr) (sp : Sp) (E : XK) : R2 := fun x y H Q => ∃ a dx fs z, x = .ref a ∧ y = .str z ∧ H a = some (.ins C dx fs) ∧ sp [.ref a, .str z] H Q E
theorem cmp_ownS (O : OthC X.K C f) (hn : PySem.W.subIn X.K (.type "str") (.ref C) = some false) (F : FnOk X.prog X.w X.K X.mg X.base CX k f fd ps sp) (hr : Room k X.A) (hb : Binds X.K fd ps []) (hx : Passes CX X E) : OpR X (compareOp .Eq) (rOS C sp E) := by
  intro pins s σ H x y v u Q I rx ry h
  obtain ⟨a, dx, fs, z, rfl, rfl, ea, q⟩ := h
  obtain rfl : v = Value.ref a := rx
  obtain ⟨t, rfl⟩ := ry
  obtain ⟨mA, J, _⟩ := ins_get I.hok ea
  obtain ⟨od, J, _⟩ := J.look
  obtain ⟨m, hF⟩ := I.fr
  show wpAny (model X.prog X.w) X.A (richCompare .Eq (.ref a) (.str z t)) (EP X pins σ Q) X.xe s
  refine PySem.W.cmp_K (op := .Eq) (tb := .type "str") hr.units0 hF I.ok.mod.kin J (PySem.W.Looks.of_pure rfl) ?_ O.eq O.fn ?_
  · simp [PySem.W.notFirst, hn]
  · exact wpAny_mono (run_own (vs := [V.ref a, V.str z]) F hr hb hx I (.cons rfl (.cons ⟨t, rfl⟩ .nil)) q) (fun _ _ w => back_of w) fun _ _ e => e
end
end My

set_option maxHeartbeats 2000000
/-! My own rules: a def that raises nothing called within an except suite (k not in o there); xs.append(v) within a try. -/
namespace My
open PySem PySem.Spec PyProof.Rows L2
/-- what a def that raises nothing promises, whatever is being handled -/
structure FnC (P : Program) (w : World) (K : PySem.W.Frag) (mg : Str → Option Value) (base : Heap) (k : Nat) (f : Addr) (fd : FuncData) (ps : List Str) (sp : Sp) : Prop where
  lens : ∀ vs H Q E, sp vs H Q E → vs.length = ps.length
  runs : ∀ (A : Around) (outer : List Env) (s : Shared) (H : Hp) (args : Args) (us : List Value) (vs : List V) (Q : VK), L2H.RoomH k A → Env0 P w K mg base A outer s H → BindsTo s fd args (ps.zip us) → Vals vs us → sp vs H Q E0 → codeAny (model P w) A (.call (.ref f) args) (CR CX0 outer P w H s Q E0) s
/-- the context of its body -/
def cxC (P : Program) (w : World) (K : PySem.W.Frag) (mg : Str → Option Value) (base : Heap) (N : List Str) (qual : Str) (scope : Scope) (f : Addr) (cd : Value) (A : Around) (outer : List Env) (s : Shared) (H : Hp) : Cx :=
  { cxOf CX0 P w K mg base N qual scope f cd A outer s H E0 with calm := false, xe := fun _ _ => False }
theorem inv_cold {P : Program} {w : World} {K : PySem.W.Frag} {mg : Str → Option Value} {base : Heap} {N ps : List Str} {qual : Str} {scope : Scope} {f : Addr} {cd : Value} {A : Around} {outer : List Env} {s s1 : Shared} {H : Hp} {us : List Value} {vs : List V}
    (S : FnScope N ps scope) (e : Env0 P w K mg base A outer s H) (hl : vs.length = ps.length) (r : Vals vs us)
    (x : InCallC s s.heap.objs.size (bindL (envOfC qual scope s.heap.objs.size f cd).kindOf (ps.zip us) fun _ => none) (cellsFrom (s.heap.objs.size + 1) scope.names []) (bindC (envOfC qual scope s.heap.objs.size f cd).kindOf (ps.zip us) fun _ => none) s1) :
    Inv (cxC P w K mg base N qual scope f cd A outer s H) [] (L2.start N vs) H s1 := by
  have I := inv_start (CX := CX0) (E := E0) (f := f) (cd := cd) (A := { A with handled := none }) S rfl ⟨e.frames, e.mod, e.bs, e.bsz, e.funs, e.frf, e.hok, e.bare⟩ hl r x
  have o := I.ok
  exact ⟨⟨o.mod, o.kind, o.glob, o.blt, o.above, o.inj, o.has, o.cab, (fun z => nomatch z), o.frames, o.stk, o.exf, o.bs, o.bsz, o.noex, o.exfs, o.funs, o.frf⟩, I.os, I.bare, I.base, I.loc, I.cell, I.free, I.freeC, I.pin, I.hok, I.len⟩
theorem okC {P : Program} {w : World} {K : PySem.W.Frag} {mg : Str → Option Value} {base : Heap} {x qual : Str} {st : Stmt} {f : Addr} {fd : FuncData} {N ps : List Str} {k : Nat} {sp : Sp} (F : Fun K x qual st f fd) (S : FnScope N ps (defScope st)) (len : ∀ vs H Q E, sp vs H Q E → vs.length = ps.length)
    (hbody : ∀ (cdv : Value) (A : Around) (outer : List Env) (s : Shared) (H : Hp) (vs : List V) (Q : VK), L2H.RoomH k (A.deeper (envOfC qual (defScope st) s.heap.objs.size f cdv)) → sp vs H Q E0 →
      ∃ t, PSs (cxC P w K mg base N qual (defScope st) f cdv A outer s H) (defBody st) t ∧ t { nx := fun _ H' => Q .non H', rt := Q } (L2.start N vs) H) : FnC P w K mg base (k + 1) f fd ps sp := by
  obtain ⟨oc, od, kV, doc, pm, an, cdv, ct, osl, rfl, lk, hcd⟩ := F.ex
  refine ⟨len, fun A outer s H args us vs Q room e0 hb r hs => ?_⟩
  have inK : K.In s.heap := e0.mod.kin.keeps fun b o z => (e0.bs b o z).1
  have noL : s.heap.NoLimit := e0.mod.nolimit.keeps fun b o z => (e0.bs b o z).1
  refine codeAny_call_function room.depth (inK _ _ lk) rfl S.co S.gen rfl (PySem.W.codeRec_of inK hcd) (hb _ _ _ _ ?_)
  refine wpAny_newFunctionEnv_cells S.kind (fun ⟨n, v⟩ hy => ?_) fun env he s1 x => ?_
  · rcases S.par n (List.of_mem_zip hy).1 with q | q
    · exact .inl q
    · exact .inr ⟨q, PySem.W.cellsFrom_some _ _ _ (.inl q)⟩
  subst he
  refine ⟨noL.keeps x.toInCall.keep, codeAny_func ?_⟩
  obtain ⟨t, ht, hq⟩ := hbody cdv A outer s H vs Q (room.deeper _) hs
  have I := inv_cold (f := f) (cd := cdv) (A := A) S e0 (len _ _ _ _ hs) r x
  refine wpAny_mono (ht.run [] s1 (L2.start N vs) H _ I hq) (fun fl s' h2 => ?_) fun _ _ z => z.elim
  cases fl with
  | ret u =>
    obtain ⟨v, σ', H', J, rv, q⟩ := h2
    exact ⟨v, H', J.os, J.bare, J.base, J.hok, rv, q⟩
  | next =>
    obtain ⟨σ', H', J, q⟩ := h2
    exact ⟨.non, H', J.os, J.bare, J.base, J.hok, rfl, q⟩
  | brk =>
    obtain ⟨_, _, _, q⟩ := h2
    exact q.elim
  | cont =>
    obtain ⟨_, _, _, q⟩ := h2
    exact q.elim
section
variable {X : Cx} {k : Nat} {C f : Addr} {fd : FuncData} {ps : List Str} {sp : Sp}
theorem run_cold {pins : List (Addr × Obj)} {s : Shared} {σ : L2.St} {H : Hp} {Q : VK} {us : List Value} {vs : List V} (F : FnC X.prog X.w X.K X.mg X.base k f fd ps sp) (hr : L2H.RoomH k X.A) (hb : Binds X.K fd ps [])
    (I : Inv X pins σ H s) (r : Vals vs us) (h : sp vs H Q E0) : wpAny (model X.prog X.w) X.A (call (.ref f) us) (EP X pins σ Q) X.xe s := by
  have b := hb s us I.kIn (by rw [List.append_nil, ← F.lens _ _ _ _ h]; exact r.length.symm)
  rw [List.append_nil] at b
  refine wpAny_call (codeAny_mono (F.runs X.A X.stack s H ⟨us, []⟩ us vs _ hr I.env0 b r h) fun r s' hq => ?_)
  cases r with
  | error e => exact False.elim hq
  | ok fl =>
    cases fl with
    | ret w => exact I.after hq
    | next => exact False.elim hq
    | brk => exact False.elim hq
    | cont => exact False.elim hq
theorem op_notInC (D : DunC X.K C "__contains__" f) (F : FnC X.prog X.w X.K X.mg X.base k f fd ps sp) (hr : L2H.RoomH k X.A) (hb : Binds X.K fd ps []) : OpR X (compareOp .NotIn) (rInI C sp E0 true) := by
  intro pins s σ H x y v u Q I rx ry h
  obtain ⟨p, dx, fs, rfl, ea, q⟩ := h
  obtain rfl : u = Value.ref p := ry
  obtain ⟨mA, J, _⟩ := ins_get I.hok ea
  obtain ⟨od, J, _⟩ := J.look
  obtain ⟨m, hF⟩ := I.fr
  refine PySem.W.notIn_K hF I.ok.mod.kin J D.at_ D.fn (wpAny_mono (run_cold (vs := [V.ref p, x]) F hr hb I (.cons rfl (.cons rx .nil)) q) (fun r s' hr' => ?_) fun _ _ e => e)
  obtain ⟨z, H2, I2, rz, b, ez, q2⟩ := hr'
  subst ez
  obtain rfl : r = Value.bool b := rz
  exact wpAny_truthy_bool ⟨.bl (!b), H2, I2, rfl, q2⟩
end
theorem huH {A : Around} {k : Nat} (hr : L2H.RoomH k A) : A.units + 1 < cLine := by have := hr.un; omega
theorem roomC {k : Nat} {A : Around} (r : Room k A) (h : Option Value) : L2H.RoomH k (A.mark h) := ⟨r.dp, r.un⟩
/-- xs.append(v) within a try: what it asks names the outer context's kinds -/
theorem pe_bmT {X : Cx} {pn : List (Addr × Obj)} {xe : Value → Shared → Prop} {T : String} {name : Str} {o e : Expr} {es : List Expr} {to : TE} {t : TA} {r : V → List V → Hp → VK → Prop} {apos cpos : Pos} (h : PE (X.tr pn xe) (.Call (.Attribute o name apos) (e :: es) [] cpos) (tBM (X.tr pn xe).K T r to t)) :
    PE (X.tr pn xe) (.Call (.Attribute o name apos) (e :: es) [] cpos) (tBM X.K T r to t) := h
/-- is not, of truth values -/
def rNotB : R2 := fun x y H Q => ∃ a b, x = V.bl a ∧ y = V.bl b ∧ Q (.bl (a != b)) H
theorem op_notB {X : Cx} : OpR X (compareOp .IsNot) rNotB := by
  intro pins s σ H x y v u Q I rx ry h
  obtain ⟨a, b, rfl, rfl, q⟩ := h
  obtain rfl : v = Value.bool a := rx
  obtain rfl : u = Value.bool b := ry
  exact wpAny_isNot_plain rfl (fin_bl I q (by cases a <;> cases b <;> rfl))
end My

/-! My own rule: lists != whose items are the same objects or equal data, one by one. -/
namespace My
open PySem PySem.Spec PyProof.Rows L2
/-- the same object, or equal data -/
inductive EqV (K : PySem.W.Frag) (H : Hp) : V → V → Prop
  | same (a : Addr) : EqV K H (.ref a) (.ref a)
  | data {x y : V} {d e : PyData} : Dp K H x d → Dp K H y e → SeqAt.shaped d = true → SeqAt.shaped e = true → PyData.eqv d e = true → EqV K H x y
def rNeMix (K : PySem.W.Frag) : R2 := fun x y H Q => ∃ a b xs ys, x = V.ref a ∧ y = V.ref b ∧ SqL K H a xs ∧ SqL K H b ys ∧ Paired (EqV K H) xs ys ∧ Q (.bl false) H
theorem op_neMix {X : Cx} (hu : X.A.units + 128 < cLine) : OpR X (compareOp .NotEq) (rNeMix X.K) := by
  intro pins s σ H x y v u Q I rx ry h
  obtain ⟨a, b, xs, ys, rfl, rfl, ha, hb, hp, q⟩ := h
  obtain rfl : v = Value.ref a := rx
  obtain rfl : u = Value.ref b := ry
  obtain ⟨as, ra, pa, za⟩ := I.list ha
  obtain ⟨bs, rb, pb, zb⟩ := I.list hb
  have la : as.length = xs.length := ra.length.symm
  have lb : bs.length = ys.length := rb.length.symm
  have lab : xs.length = ys.length := hp.length
  show wpAny (model X.prog X.w) X.A (richCompare .NotEq (.ref a) (.ref b)) (EP X pins σ Q) X.xe s
  refine SeqAt.RcNeAt.lists (e := fun _ => true) pa.isList pb.isList (by simp; omega) (by omega) (fun j h1 h2 => ?_) X.prog X.w _ _ (fin_bl I q (by simp))
  have i1 : j < xs.length := by simp at h1; omega
  have i2 : j < ys.length := by omega
  obtain ⟨u1, g1, r1⟩ := ra.get (List.getElem?_eq_getElem i1)
  obtain ⟨u2, g2, r2⟩ := rb.get (List.getElem?_eq_getElem i2)
  have e1 : as.toArray[j] = u1 := by
    have := (List.getElem?_eq_some_iff.mp g1).2
    simpa using this
  have e2 : bs.toArray[j] = u2 := by
    have := (List.getElem?_eq_some_iff.mp g2).2
    simpa using this
  rw [e1, e2]
  obtain ⟨y2, hy2, he⟩ := L2.paired_get hp (List.getElem?_eq_getElem i1)
  rw [List.getElem?_eq_getElem i2] at hy2
  obtain rfl := Option.some.inj hy2
  generalize hxj : xs[j] = xv at he r1
  generalize hyj : ys[j] = yv at he r2
  cases he with
  | same c =>
    obtain rfl : u1 = Value.ref c := r1
    obtain rfl : u2 = Value.ref c := r2
    exact SeqAt.EqAt.same _
  | @data _ _ d e hd hd2 sd se hq =>
    obtain ⟨_, R1⟩ := Dp.reads I d xv u1 hd r1
    obtain ⟨_, R2⟩ := Dp.reads I e yv u2 hd2 r2
    have := SeqAt.eqAt_reads d e X.A.in1 s u1 u2 _ _ R1 R2 (SeqAt.canLay_of_shaped sd) (SeqAt.canLay_of_shaped se) (SeqAt.room_of_shaped sd (by show X.A.units + 1 + 64 < cLine; omega))
    rw [hq] at this
    exact this
end My

/-! My own rules: == of dicts of instances with an own ==; != of an instance and an integer. -/
namespace My
open PySem PySem.Spec PyProof.Rows L2
section
open PySem.Calls PyProof.V
variable {prog : Program} {w : World} {K : Type} [DecidableEq K] {knd : KeyKind prog w K} {A : Around} {E : Value → Shared → Prop} {s : Shared}
theorem samePairsB {nm : String} {a b : Addr} {ka kb : List (K × Value)} {oa ob : Obj} {r : Bool} {Q : Bool → Shared → Prop} (t : Nat → Bool) (I : Shared → Prop) (ha : (a == sysModules) = false) (hb : (b == sysModules) = false)
    (da : s.heap.DictOf knd a ka) (db : s.heap.DictOf knd b kb) (keep : ∀ s', I s' → s'.heap.get? a = some oa ∧ s'.heap.get? b = some ob)
    (hit : ∀ i k v, ka[i]? = some (k, v) → (valueAt kb k = none ∧ t i = false) ∨ ∃ y, valueAt kb k = some y ∧ ∀ s', I s' → wpAny (model prog w) A (eqBool v y) (fun e s2 => e = t i ∧ I s2) E s')
    (hr : r = true ↔ ka.length = kb.length ∧ ∀ i, i < ka.length → t i = true) (h : ∀ s', I s' → Q r s') (h0 : I s) :
    wpAny (model prog w) A (Builtin.Dict.samePairs nm a b) Q E s := by
  obtain ⟨oa', es, ep, hoa, hxa, hda, hka, hpa, _⟩ := da
  obtain ⟨ob', es', ep', hob, hxb, hdb, hkb, hpb, _⟩ := db
  obtain ⟨ka0, kb0⟩ := keep s h0
  rw [hoa] at ka0
  rw [hob] at kb0
  obtain rfl := Option.some.inj ka0
  obtain rfl := Option.some.inj kb0
  have hla : ka.length = es.size := by rw [← hpa.length]; exact Array.length_toList
  have hlb : kb.length = es'.size := by rw [← hpb.length]; exact Array.length_toList
  have hfind : ∀ k, findBy knd.is es' k = valueAt kb k := fun k => by
    rw [← hpb.find k]
    clear hlb hpb hkb hdb hob
    obtain ⟨l⟩ := es'
    simp [findBy]
  unfold Builtin.Dict.samePairs Builtin.Dict.showsAll
  rw [if_neg (show ¬ (a == sysModules) = true by rw [ha]; exact Bool.false_ne_true), if_neg (show ¬ (b == sysModules) = true by rw [hb]; exact Bool.false_ne_true)]
  refine wpAny_bind (wpAny_pure (wpAny_bind (wpAny_pure ?_)))
  refine wpAny_bind (wpAny_dictEntries hoa hda ?_)
  dsimp only
  refine wpAny_bind (wpAny_dictEntries hob hdb ?_)
  by_cases hsz : es.size = es'.size
  case neg =>
    rw [if_pos (by simpa using hsz)]
    have hrf : r = false := by
      rw [← Bool.not_eq_true, hr]
      rintro ⟨z, _⟩
      exact hsz (by rw [← hla, ← hlb, z])
    have := h s h0
    rw [hrf] at this
    exact wpAny_bind (wpAny_rule (wpAny_pure this))
  case pos =>
    rw [if_neg (by rw [hsz]; simp)]
    refine wpAny_bind (wpAny_dictEpoch hoa hda ?_)
    refine wpAny_bind ?_
    rw [Std.Legacy.Range.forIn_eq_forIn_range']
    simp only [Std.Legacy.Range.size, Nat.sub_zero, Nat.add_sub_cancel, Nat.div_one]
    refine wpAny_forIn_list _
      (fun rest q s' => I s' ∧ q = (none, ()) ∧ ∃ i, rest = List.range' i (es.size - i) ∧ i ≤ es.size ∧ ∀ j, j < i → t j = true)
      _ ?_ ?_ _ _ ⟨h0, rfl, 0, by simp, Nat.zero_le _, fun j hj => absurd hj (Nat.not_lt_zero _)⟩
    · rintro x rest q s' ⟨hI, rfl, i, hrs, hi, hall⟩
      obtain ⟨hoa, hob⟩ := keep s' hI
      have hlt : i < es.size := by
        rcases Nat.lt_or_ge i es.size with h | h
        · exact h
        · rw [Nat.sub_eq_zero_of_le h] at hrs; simp at hrs
      obtain ⟨rfl, hrest⟩ : x = i ∧ rest = List.range' (i + 1) (es.size - (i + 1)) := by
        have e : es.size - i = (es.size - (i + 1)) + 1 := by omega
        rw [e, List.range'_succ] at hrs
        injection hrs with h1 h2
        exact ⟨h1, h2⟩
      refine wpAny_bind (wpAny_dictEntries hoa hda ?_)
      rw [Array.getElem?_eq_getElem hlt]
      have hlt' : x < ka.length := by rw [hla]; exact hlt
      obtain ⟨k, v, hkv⟩ : ∃ k v, ka[x] = (k, v) := ⟨_, _, rfl⟩
      obtain ⟨hkey, hval⟩ := hpa.get? (i := x) (e := es[x]) (k := k) (v := v) (by rw [Array.getElem?_toList]; exact Array.getElem?_eq_getElem hlt) (by rw [List.getElem?_eq_getElem hlt', hkv])
      obtain ⟨k', hk', hh⟩ := hka es[x] (Array.getElem_mem hlt)
      have ekk : k' = k := knd.inj _ _ _ hk' hkey
      rw [ekk] at hh
      have hx := hit x k v (by rw [List.getElem?_eq_getElem hlt', hkv])
      show wpAny _ _ (holding [es[x].key, es[x].val] _ >>= _) _ _ _
      rw [hh]
      refine wpAny_bind (wpAny_holding (wpAny_bind (wpAny_dictFind_of hkey hob hdb hkb ?_)))
      have rF : t x = false → Q false s' := fun e => by
        have hrf : r = false := by
          rw [← Bool.not_eq_true, hr]
          rintro ⟨_, z⟩
          have := z x hlt'
          rw [e] at this
          cases this
        have := h s' hI
        rw [hrf] at this
        exact this
      cases hj : es'.findIdx? fun e => knd.is k e.key with
      | none =>
        have hn : valueAt kb k = none := by rw [← hfind k, findBy_of_findIdx?, hj]
        rcases hx with ⟨_, er⟩ | ⟨y, hy, _⟩
        · refine wpAny_pure ?_
          show wpAny _ _ (if (!false) = true then _ else _) _ _ _
          rw [if_pos (by decide)]
          exact wpAny_pure (wpAny_pure (rF er))
        · rw [hn] at hy; exact nomatch hy
      | some j =>
        obtain ⟨hjlt, _, _⟩ := Array.findIdx?_eq_some_iff_getElem.mp hj
        have hv' : valueAt kb k = some es'[j].val := by
          rw [← hfind k, findBy_of_findIdx?, hj]
          simp [Array.getElem?_eq_getElem hjlt]
        refine wpAny_bind (wpAny_dictEntries hob hdb ?_)
        rw [Array.getElem?_eq_getElem hjlt]
        rcases hx with ⟨hn, _⟩ | ⟨y, hy, he⟩
        · rw [hv'] at hn; exact nomatch hn
        · have ey : es'[j].val = y := Option.some.inj (hv'.symm.trans hy)
          rw [← ey, ← hval] at he
          refine wpAny_holding (wpAny_mono (he s' hI) (fun e s2 ⟨h1, h2⟩ => ?_) fun _ _ z => z)
          obtain ⟨hoa2, hob2⟩ := keep s2 h2
          cases ht : t x with
          | false =>
            rw [ht] at h1
            subst h1
            show wpAny _ _ (if (!false) = true then _ else _) _ _ _
            rw [if_pos (by decide)]
            have hrf : r = false := by
              rw [← Bool.not_eq_true, hr]
              rintro ⟨_, z⟩
              have := z x hlt'
              rw [ht] at this
              cases this
            have := h s2 h2
            rw [hrf] at this
            exact wpAny_pure (wpAny_pure this)
          | true =>
            rw [ht] at h1
            subst h1
            show wpAny _ _ (if (!true) = true then _ else _) _ _ _
            rw [if_neg (by decide)]
            refine wpAny_bind (wpAny_dictEpoch hoa2 hda ?_)
            rw [if_neg (by simp)]
            exact wpAny_pure ⟨h2, rfl, x + 1, hrest, hlt, fun j hj => by
              by_cases e : j = x
              · rw [e]; exact ht
              · exact hall j (by omega)⟩
    · rintro q s' ⟨hI, rfl, i, hrs, hi, hall⟩
      have hin : i = es.size := by
        rcases Nat.lt_or_ge i es.size with h | h
        · have e : es.size - i = (es.size - (i + 1)) + 1 := by omega
          rw [e, List.range'_succ] at hrs; exact nomatch hrs
        · exact Nat.le_antisymm hi h
      refine wpAny_pure ?_
      have hrt : r = true := hr.mpr ⟨by rw [hla, hlb, hsz], fun j hj => hall j (by rw [hin, ← hla]; exact hj)⟩
      have := h s' hI
      rw [hrt] at this
      exact this
theorem dict_eqB {a b : Addr} {ka kb : List (K × Value)} {oa ob : Obj} {r : Bool} {Q : Value → Shared → Prop} (t : Nat → Bool) (I : Shared → Prop) (ha : (a == sysModules) = false) (hb : (b == sysModules) = false)
    (da : s.heap.DictOf knd a ka) (db : s.heap.DictOf knd b kb) (hu : A.units < cLine) (keep : ∀ s', I s' → s'.heap.get? a = some oa ∧ s'.heap.get? b = some ob)
    (hit : ∀ i k v, ka[i]? = some (k, v) → (valueAt kb k = none ∧ t i = false) ∨ ∃ y, valueAt kb k = some y ∧ ∀ s', I s' → wpAny (model prog w) A.in1 (eqBool v y) (fun e s2 => e = t i ∧ I s2) E s')
    (hr : r = true ↔ ka.length = kb.length ∧ ∀ i, i < ka.length → t i = true) (h : ∀ s', I s' → Q (.bool r) s') (h0 : I s) :
    wpAny (model prog w) A (compareOp .Eq (.ref a) (.ref b)) Q E s := by
  refine wpAny_richCompare_same_room (op := .Eq) da.typeIs db.typeIs PySem.F.slot_dict_eq (wpAny_call_entry PySem.F.slot_dict_eq da.typeIs PySem.F.entry_dict_eq ?_ (PySem.F.args_dict_eq_2 _ _)) hu
  show wpAny _ _ (Builtin.Dict.dictSlotArgs "__eq__" ⟨[.ref a, .ref b], []⟩ >>= _) _ _ s
  refine wpAny_bind ?_
  unfold Builtin.Dict.dictSlotArgs
  refine wpAny_bind (wpAny_notOrdered_dict da.typeIs ?_)
  show wpAny _ _ (pure (Value.ref a, Value.ref b)) _ _ s
  refine wpAny_pure ?_
  refine wpAny_bind (wpAny_isInstance (T := "dict") db.typeIs PySem.F.sub_dict_dict ?_)
  simp only [Bool.not_true, Bool.false_eq_true, if_false]
  refine wpAny_bind (wpAny_pure (wpAny_bind (wpAny_pure ?_)))
  refine wpAny_bind (samePairsB t I ha hb da db keep hit hr (fun s' hI => ?_) h0)
  refine wpAny_pure ⟨_, rfl, ?_, ?_⟩
  · exact fun x => nomatch x
  · rw [show (r == true) = r from by cases r <;> rfl]
    exact h s' hI
end
section
variable {X : Cx} {CX : CXT} {k : Nat} {C f : Addr} {fd : FuncData} {ps : List Str} {sp : Sp} {E : XK}
/-- two dicts of instances by name; t tells which entries are equal -/
def rDictB (C : Addr) (sp : Sp) (E : XK) : R2 := fun x y H Q => ∃ a b, ∃ ks ls : List (Key × V), ∃ t : Nat → Bool, ∃ ans : Bool, x = .ref a ∧ y = .ref b ∧ a ≠ b ∧ H a = some (.dK ks) ∧ H b = some (.dK ls) ∧
  (∀ (i : Nat) k u, ks[i]? = some (k, u) → (valV ls k = none ∧ t i = false) ∨ ∃ v, valV ls k = some v ∧ ∃ p q dx dy fs gs, u = .ref p ∧ v = .ref q ∧ H p = some (.ins C dx fs) ∧ H q = some (.ins C dy gs) ∧ (p = q → t i = true) ∧ ∀ H' : Hp, (∀ c o, c ≠ a → c ≠ b → H c = some o → H' c = some o) → sp [.ref p, .ref q] H' (fun w H2 => w = .bl (t i) ∧ H2 = H') E) ∧
  (ans = true ↔ ks.length = ls.length ∧ ∀ i, i < ks.length → t i = true) ∧ Q (.bl ans) H
theorem op_dictB (hs : PySem.W.findIn X.K (.ref C) "__eq__" = some (some (.ref f))) (hf : PySem.W.isFn X.K (.ref f) = true) (Fk : FnOk X.prog X.w X.K X.mg X.base CX k f fd ps sp) (hr : Room (k + 1) X.A) (hb : Binds X.K fd ps []) (hx : Passes CX X E) : OpR X (compareOp .Eq) (rDictB C sp E) := by
  intro pins s σ H x y v u Q I rx ry h
  obtain ⟨a, b, ks, ls, t, ans, rfl, rfl, hne, ha, hb', hi, hans, q⟩ := h
  cases rx
  cases ry
  obtain ⟨_, ya, va, ra, da⟩ := (show ObjOk X.prog X.w H s.heap a (.dK ks) from I.hok a _ ha)
  obtain ⟨_, yb, vb, rb, db⟩ := (show ObjOk X.prog X.w H s.heap b (.dK ls) from I.hok b _ hb')
  obtain ⟨oa, I1⟩ := I.lock ha trivial
  have hb1 : (upd H a (.frz oa (.dK ks))) b = some (.dK ls) := by rw [upd_ne (Ne.symm hne)]; exact hb'
  obtain ⟨ob, I2⟩ := I1.lock hb1 trivial
  have hu : X.A.units < cLine := hr.units0
  have ea : (upd (upd H a (.frz oa (.dK ks))) b (.frz ob (.dK ls))) a = some (.frz oa (.dK ks)) := by rw [upd_ne hne]; exact upd_same
  have eb : (upd (upd H a (.frz oa (.dK ks))) b (.frz ob (.dK ls))) b = some (.frz ob (.dK ls)) := upd_same
  have back : upd (upd (upd (upd H a (.frz oa (.dK ks))) b (.frz ob (.dK ls))) b (.dK ls)) a (.dK ks) = H := by
    funext c
    by_cases e1 : c = a
    · rw [e1, upd_same, ha]
    · rw [upd_ne e1]
      by_cases e2 : c = b
      · rw [e2, upd_same, hb']
      · rw [upd_ne e2, upd_ne e2, upd_ne e1]
  have kp : ∀ c o, c ≠ a → c ≠ b → H c = some o → (upd (upd H a (.frz oa (.dK ks))) b (.frz ob (.dK ls))) c = some o := fun c o h1 h2 h3 => by rw [upd_ne h2, upd_ne h1]; exact h3
  show wpAny (model X.prog X.w) X.A (compareOp .Eq (.ref a) (.ref b)) (EP X pins σ Q) X.xe s
  refine dict_eqB (oa := oa) (ob := ob) (r := ans) t (fun s' => Inv X pins σ (upd (upd H a (.frz oa (.dK ks))) b (.frz ob (.dK ls))) s') ya yb da db hu (fun s' I' => ?_) (fun i k v hk => ?_) ?_ (fun s' I' => ?_) I2
  · have xa : ObjOk X.prog X.w _ s'.heap a (.frz oa (.dK ks)) := I'.hok a _ ea
    have xb : ObjOk X.prog X.w _ s'.heap b (.frz ob (.dK ls)) := I'.hok b _ eb
    exact ⟨xa.1, xb.1⟩
  · have hk' : i < va.length := (List.getElem?_eq_some_iff.mp hk).1
    have hki : i < ks.length := by rw [ra.length]; exact hk'
    obtain ⟨z, hz, ez⟩ := paired_get ra (List.getElem?_eq_getElem hki)
    rw [hk] at hz
    obtain rfl := Option.some.inj hz
    obtain ⟨e1, ru⟩ := ez
    have hks : ks[i]? = some (k, (ks[i]).2) := by rw [List.getElem?_eq_getElem hki]; exact congrArg some (Prod.ext e1 rfl)
    have at_ : RelO (valV ls k) (valueAt vb k) := rb.val _
    rcases hi i k _ hks with ⟨f1, f2⟩ | ⟨v', f1, p', q', dx, dy, fs, gs, eu, evv, hp, hq, hsame, hsp⟩
    · rw [f1] at at_
      refine .inl ⟨?_, f2⟩
      cases hv : valueAt vb k with
      | none => rfl
      | some y => rw [hv] at at_; exact at_.elim
    · rw [f1] at at_
      obtain ⟨y, hy, ry⟩ := at_.some_of
      refine .inr ⟨y, hy, fun s' I' => ?_⟩
      have ru : RelV (ks[i]).2 v := ru
      rw [eu] at ru
      rw [evv] at ry
      obtain rfl : v = Value.ref p' := ru
      obtain rfl : y = Value.ref q' := ry
      have nep : ∀ c d xs ys, H c = some (.ins C d xs) → H a = some (.dK ys) → c ≠ a := fun c d xs ys h1 h2 z => by rw [z, h2] at h1; cases h1
      have hpa : p' ≠ a := fun z => by rw [z, ha] at hp; cases hp
      have hpb : p' ≠ b := fun z => by rw [z, hb'] at hp; cases hp
      have hqa : q' ≠ a := fun z => by rw [z, ha] at hq; cases hq
      have hqb : q' ≠ b := fun z => by rw [z, hb'] at hq; cases hq
      have hp := kp p' _ hpa hpb hp
      have hq := kp q' _ hqa hqb hq
      have hsp := hsp _ kp
      by_cases hab : p' = q'
      · subst hab
        exact eqBool_same ⟨(hsame rfl).symm, I'⟩
      · obtain ⟨mA, J, _⟩ := ins_get I'.hok hp
        obtain ⟨mB, J', _⟩ := ins_get I'.hok hq
        obtain ⟨od, J, _⟩ := J.look
        obtain ⟨od', J', _⟩ := J'.look
        obtain ⟨m, hF⟩ := I'.fr
        refine GQ.eqBool_refG hab (PySem.W.cmp_K (op := .Eq) (tb := .ref C) hr.in1.units0 hF I'.ok.mod.kin J J'.type (by simp [PySem.W.notFirst]) hs hf (wpAny_mono (run_own1 (vs := [V.ref p', V.ref q']) Fk hr hb hx I' (.cons rfl (.cons rfl .nil)) hsp) (fun v s2 hv => ?_) fun _ _ e => e))
        obtain ⟨x, H2, I2', rv, ex, eH⟩ := hv
        subst ex
        subst eH
        obtain rfl : v = Value.bool (t i) := rv
        exact ⟨t i, rfl, rfl, I2'⟩
  · rw [hans, ra.length, rb.length]
  · have I3 := I'.unlock eb (I1.nofrz hb1 trivial)
    have I4 := I3.unlock (d := a) (od := oa) (u := .dK ks) (by rw [upd_ne hne]; exact ea) (I.nofrz ha trivial)
    rw [back] at I4
    exact ⟨.bl ans, H, I4, rfl, q⟩
end
theorem room128 {k : Nat} {A : Around} (r : Room k A) : A.units + 128 < cLine := by have := r.un; omega
/-! dicts of data compared -/
section
open PySem.W PySem.SeqAt
theorem hits_of {K : Type} [DecidableEq K] {A : Around} {s : Shared} {vb : List (K × Value)} : ∀ (va : List (K × Value)) (t : Nat → Bool), (∀ (i : Nat) k v, va[i]? = some (k, v) → (valueAt vb k = none ∧ t i = false) ∨ ∃ y, valueAt vb k = some y ∧ EqAt A s v y (t i)) → ∃ r, KeqHits A s vb va r ∧ (r = true ↔ ∀ i, i < va.length → t i = true)
  | [], t, _ => ⟨true, .nil, by simp⟩
  | (k, v) :: va, t, h => by
    obtain ⟨r, hr, er⟩ := hits_of va (fun i => t (i + 1)) fun i k v hi => h (i + 1) k v hi
    rcases h 0 k v rfl with ⟨h1, h2⟩ | ⟨y, h1, h2⟩
    · refine ⟨false, .miss h1, ?_⟩
      constructor
      · intro z; cases z
      · intro z
        have := z 0 (Nat.zero_lt_succ _)
        rw [h2] at this
        cases this
    · refine ⟨t 0 && r, .hit h1 h2 hr, ?_⟩
      rw [Bool.and_eq_true, er]
      constructor
      · rintro ⟨a, b⟩ i hi
        cases i with
        | zero => exact a
        | succ i => exact b i (Nat.lt_of_succ_lt_succ hi)
      · intro z
        exact ⟨z 0 (Nat.zero_lt_succ _), fun i hi => z (i + 1) (Nat.succ_lt_succ hi)⟩
end
section
variable {X : Cx}
def rNeDD (K : PySem.W.Frag) : R2 := fun x y H Q => ∃ a b, ∃ ks ls : List (Key × V), ∃ t : Nat → Bool, ∃ ans : Bool, x = .ref a ∧ y = .ref b ∧ H a = some (.dK ks) ∧ H b = some (.dK ls) ∧
  (∀ (i : Nat) k u, ks[i]? = some (k, u) → (valV ls k = none ∧ t i = false) ∨ ∃ v d e, valV ls k = some v ∧ Dp K H u d ∧ Dp K H v e ∧ SeqAt.shaped d = true ∧ SeqAt.shaped e = true ∧ PyData.eqv d e = t i) ∧
  (ans = true ↔ ks.length = ls.length ∧ ∀ i, i < ks.length → t i = true) ∧ Q (.bl (!ans)) H
theorem op_neDD (hu : X.A.units + 128 < cLine) : OpR X (compareOp .NotEq) (rNeDD X.K) := by
  intro pins s σ H x y v u Q I rx ry h
  obtain ⟨a, b, ks, ls, t, ans, rfl, rfl, ha, hb, hi, hans, q⟩ := h
  cases rx
  cases ry
  obtain ⟨_, ya, va, ra, da⟩ := (show ObjOk X.prog X.w H s.heap a (.dK ks) from I.hok a _ ha)
  obtain ⟨_, yb, vb, rb, db⟩ := (show ObjOk X.prog X.w H s.heap b (.dK ls) from I.hok b _ hb)
  obtain ⟨r, hr, er⟩ := hits_of (A := X.A.in1) (s := s) (vb := vb) va t fun i k v hk => by
    have hk' : i < va.length := (List.getElem?_eq_some_iff.mp hk).1
    have hki : i < ks.length := by rw [ra.length]; exact hk'
    obtain ⟨z, hz, ez⟩ := paired_get ra (List.getElem?_eq_getElem hki)
    rw [hk] at hz
    obtain rfl := Option.some.inj hz
    obtain ⟨e1, ru⟩ := ez
    have hks : ks[i]? = some (k, (ks[i]).2) := by rw [List.getElem?_eq_getElem hki]; exact congrArg some (Prod.ext e1 rfl)
    have at_ : RelO (valV ls k) (valueAt vb k) := rb.val _
    rcases hi i k _ hks with ⟨f1, f2⟩ | ⟨v', d, e, f1, hd, he, sd, se, hq⟩
    · rw [f1] at at_
      refine .inl ⟨?_, f2⟩
      cases hv : valueAt vb k with
      | none => rfl
      | some y => rw [hv] at at_; exact at_.elim
    · rw [f1] at at_
      obtain ⟨y, hy, ry⟩ := at_.some_of
      obtain ⟨_, R1⟩ := Dp.reads I d _ v hd ru
      obtain ⟨_, R2⟩ := Dp.reads I e v' y he ry
      have := SeqAt.eqAt_reads d e X.A.in1 s v y _ _ R1 R2 (SeqAt.canLay_of_shaped sd) (SeqAt.canLay_of_shaped se) (SeqAt.room_of_shaped sd (by show X.A.units + 1 + 64 < cLine; omega))
      rw [hq] at this
      exact .inr ⟨y, hy, this⟩
  refine PySem.W.keq_ne (r := r) ya yb da db (by omega) (fun _ => hr) (fin_bl I q ?_)
  have hl : va.length = ks.length := ra.length.symm
  have hl' : vb.length = ls.length := rb.length.symm
  congr 1
  rw [Bool.eq_iff_iff, hans, Bool.and_eq_true, er, hl, hl', beq_iff_eq]
end
/-! xs[::e] where e is 1 or -1 -/
section
variable {X : Cx}
def tStepL (K : PySem.W.Frag) (te ts : TE) : TE := fun σ H Q => te σ H fun x H1 => tPart ts σ H1 fun o H2 => ∃ c, o = some c ∧ ∃ a xs, x = .ref a ∧ SqL K H2 a xs ∧ (c = 1 ∨ c = -1) ∧ ∀ p, H2 p = none → Q (.ref p) (upd H2 p (.lst (if c = 1 then xs else xs.reverse)))
theorem pe_stepL {e f : Expr} {te ts : TE} {p3 pos : Pos} (he : PE X e te) (hf : PE X f ts) : PE X (.Subscript e (.Slice none none (some f) p3) pos) (tStepL X.K te ts) := by
  refine ⟨fun pins s σ H Q I h => ?_⟩
  refine Subscript_ (thn (he.run pins s σ H _ I h) fun v s1 ⟨x, H1, I1, r1, q1⟩ => ?_)
  have hst : PO X (some f) (tPart ts) := po_some hf
  refine wpAny_Slice (thn (po_none.run pins s1 σ H1 (fun o H2 => o = none ∧ H2 = H1) I1 ⟨rfl, rfl⟩) fun vl s2 ⟨l, H2, I2, pl, el, e2⟩ => ?_)
  subst el e2
  refine thn (po_none.run pins s2 σ H2 (fun o H3 => o = none ∧ H3 = H2) I2 ⟨rfl, rfl⟩) fun vu s3 ⟨u, H3, I3, pu, eu, e3⟩ => ?_
  subst eu e3
  refine thn (hst.run pins s3 σ H3 _ I3 q1) fun vs s4 ⟨o, H4, I4, ps, c, eo, a, xs, ex, hx, hc, q⟩ => ?_
  subst eo
  subst ex
  cases r1
  have I5 : Inv X pins σ H4 { s4 with heap := s4.heap.push { cls := .type "slice", data := .fields #[vl, vu, vs] } } := I4.kept (t' := s4.toks) fun b ob q => Heap.get?_push_of_some _ q
  obtain ⟨its, r, ht, hz⟩ := I5.list hx
  have hlen := r.length
  show wpAny (model X.prog X.w) X.A (subscriptTail e (.Slice none none (some f) p3) (.ref a) (.ref s4.heap.objs.size)) (EP X pins σ Q) X.xe { s4 with heap := s4.heap.push { cls := .type "slice", data := .fields #[vl, vu, vs] } }
  refine tail_any (ops := [.ref a, .ref s4.heap.objs.size]) ht.isList.typeIs (PySem.slot_list_getitem.lookup) ?_ (by with_unfolding_all rfl)
  have hne : (some c : Option Int) ≠ some 0 := by rcases hc with rfl | rfl <;> decide
  refine wpAny_getItem_list_slice ht.isList (Heap.IsSliceOf.new _ vl vu vs) pl pu ps hne ?_ (by rw [List.size_toArray]; omega)
  rcases hc with rfl | rfl
  · rw [show slicePick its.toArray none none (some 1) = slicePick its.toArray none none none from rfl, L2.slicePick_cut, HT.sIx_none, HT.sIx_none, List.drop_zero, Nat.sub_zero, List.take_length]
    refine ⟨.ref _, _, I5.laid (t' := s4.toks) (o := .lst xs) (fun b ob q => Heap.get?_push_of_some _ q) (Nat.le_refl _) ?_, rfl, q _ (I5.hok.fresh (Nat.le_refl _))⟩
    exact ⟨hz, _, 0, r, Heap.get?_push_size _ rfl⟩
  · rw [PySem.W.krv_pick]
    refine ⟨.ref _, _, I5.laid (t' := s4.toks) (o := .lst xs.reverse) (fun b ob q => Heap.get?_push_of_some _ q) (Nat.le_refl _) ?_, rfl, q _ (I5.hok.fresh (Nat.le_refl _))⟩
    exact ⟨by rw [List.length_reverse]; exact hz, _, 0, r.reverse, Heap.get?_push_size _ rfl⟩
end
/-! an instance != an integer -/
section
variable {X : Cx} {CX : CXT} {k : Nat} {C f : Addr} {fd : FuncData} {ps : List Str} {sp : Sp} {E : XK}
def rNeI (C : Addr) (sp : Sp) (E : XK) : R2 := fun x y H Q => ∃ a dx fs, ∃ n : Int, x = .ref a ∧ y = .int n ∧ H a = some (.ins C dx fs) ∧ sp [.ref a, .int n] H (fun v H' => ∃ b, v = .bl b ∧ Q (.bl (!b)) H') E
theorem ne_ownI (N : NoNe X.K C f) (hi : PySem.W.subIn X.K (.type "int") (.ref C) = some false) (F : FnOk X.prog X.w X.K X.mg X.base CX k f fd ps sp) (hr : Room (k + 1) X.A) (hb : Binds X.K fd ps []) (hx : Passes CX X E) : OpR X (compareOp .NotEq) (rNeI C sp E) := by
  intro pins s σ H x y v u Q I rx ry h
  obtain ⟨a, dx, fs, n, rfl, rfl, ea, q⟩ := h
  obtain rfl : v = Value.ref a := rx
  obtain ⟨t, rfl⟩ := ry
  obtain ⟨mA, J, _⟩ := ins_get I.hok ea
  obtain ⟨od, J, _⟩ := J.look
  show wpAny (model X.prog X.w) X.A (richCompare .NotEq (.ref a) (.int n t)) (EP X pins σ Q) X.xe s
  refine ne_KI (by have := hr.un; omega) I.kIn N hi J (wpAny_mono (run_own1 (vs := [V.ref a, V.int n]) F hr hb hx I (.cons rfl (.cons ⟨t, rfl⟩ .nil)) q) (fun v s2 hv => ?_) fun _ _ e => e)
  obtain ⟨x, H2, I2, rv, b, ex, q2⟩ := hv
  subst ex
  obtain rfl : v = Value.bool b := rv
  exact ⟨b, rfl, .bl (!b), H2, I2, rfl, q2⟩
end
/-! lists != whose items are dicts of the same entries -/
section
open PySem.SeqAt
open AutoSeq1 (wpAny_loadPart')
open MeetsSeq MeetsSeq2 MeetsSeq3
variable {prog : Program} {w : World}
theorem ne_loopIn (l b : Addr) (items items2 : Array Value) (n n2 : Nat) (dd dd2 : Option Addr) (sl sl2 : Array (Option Value)) (hsz : items.size = items2.size) (e : Nat → Bool) (k : Nat) :
    ∀ i : Nat, items.size - i = k → MeetsIn prog w (Builtin.«list.__eq__.loop» ⟨[.ref l, .ref b, rawInt i, rawInt 3], []⟩)
      (fun A R s => s.heap.get? l = some { cls := .type "list", dict := dd, data := .seq items n, slots := sl } ∧ s.heap.get? b = some { cls := .type "list", dict := dd2, data := .seq items2 n2, slots := sl2 } ∧
        (∀ j (h1 : j < items.size) (h2 : j < items2.size), EqIn prog w A.in1 s items[j] items2[j] (e j)) ∧
        R (.ok (.ret (.bool (!((List.range items.size).drop i).all e)))) s) := by
  induction k with
  | zero =>
    intro i hk A R s h
    obtain ⟨hp, g, d, tk, os⟩ := s; obtain ⟨hl, hb, he, h⟩ := h
    wp_walk using wpAny_loadPart' hl, wpAny_loadPart' hb
    have hi1 : items[((i : Nat) : Int).toNat]? = none := by simp; omega
    have hi2 : items2[((i : Nat) : Int).toNat]? = none := by simp; omega
    have hd : (List.range items.size).drop i = [] := by simp; omega
    rw [hd] at h
    rw [hi1, hi2]
    wp_walk using wpAny_loadPart' hl, wpAny_loadPart' hb
    show R (.ok (.ret (.bool (items.size != items2.size)))) _
    rw [hsz]
    simpa using h
  | succ k ih =>
    intro i hk A R s h
    obtain ⟨hp, g, d, tk, os⟩ := s; obtain ⟨hl, hb, he, h⟩ := h
    wp_walk using wpAny_loadPart' hl, wpAny_loadPart' hb
    have hlt : i < items.size := by omega
    have hlt2 : i < items2.size := by omega
    have hi1 : items[((i : Nat) : Int).toNat]? = some items[i] := by simp [hlt]
    have hi2 : items2[((i : Nat) : Int).toNat]? = some items2[i] := by simp [hlt2]
    have hd : (List.range items.size).drop i = i :: (List.range items.size).drop (i + 1) := by simp [List.drop_eq_getElem_cons, hlt]
    have hc : ((i : Int) + 1) = ((i + 1 : Nat) : Int) := by push_cast; rfl
    rw [hd, List.all_cons] at h
    rw [hi1, hi2]
    refine wpAny_bind (he i hlt hlt2 _ _ ?_)
    cases hb' : e i with
    | true =>
      rw [hb'] at h
      wp_walk
      rw [hc]
      exact ⟨plainId_quiet plain_eq_loop _, codeAny_builtin entry_eq_loop (by
        rw [Around.under_plainId plain_eq_loop _]
        exact ih (i + 1) (by omega) A R _ ⟨hl, hb, he, by simpa using h⟩)⟩
    | false =>
      rw [hb'] at h
      wp_walk using wpAny_loadPart' hl, wpAny_loadPart' hb
      rw [hi1, hi2]
      wp_walk
      simpa using h
theorem list_neIn (l b : Addr) (items items2 : Array Value) (n n2 : Nat) (dd dd2 : Option Addr) (sl sl2 : Array (Option Value)) (hsz : items.size = items2.size) (e : Nat → Bool) :
    MeetsIn prog w (Builtin.«list.__ne__» ⟨[.ref l, .ref b], []⟩)
      (fun A R s => s.heap.get? l = some { cls := .type "list", dict := dd, data := .seq items n, slots := sl } ∧ s.heap.get? b = some { cls := .type "list", dict := dd2, data := .seq items2 n2, slots := sl2 } ∧
        (∀ j (h1 : j < items.size) (h2 : j < items2.size), EqIn prog w A.in1 s items[j] items2[j] (e j)) ∧
        R (.ok (.ret (.bool (!(List.range items.size).all e)))) s) := by
  intro A R s h
  obtain ⟨hp, g, d, tk, os⟩ := s; obtain ⟨hl, hb, he, h⟩ := h
  have f3 := AutoSeq1.sub_list_list
  have hne : ¬ (items.size != items2.size) = true := by simp [hsz]
  wp_walk using wpAny_loadPart' hl, wpAny_loadPart' hb
  exact ⟨plainId_quiet plain_eq_loop _, codeAny_builtin entry_eq_loop (by
    rw [Around.under_plainId plain_eq_loop _]
    exact ne_loopIn l b items items2 n n2 dd dd2 sl sl2 hsz e _ 0 rfl A R _ ⟨hl, hb, he, by simpa using h⟩)⟩
theorem rcNeIn_lists {A : Around} {s : Shared} {E : Value → Shared → Prop} {l b : Addr} {items items2 : Array Value} {e : Nat → Bool} {Q : Value → Shared → Prop} (hl : s.heap.IsList l items) (hb : s.heap.IsList b items2) (hsz : items.size = items2.size) (hu : A.units < cLine)
    (he : ∀ j (h1 : j < items.size) (h2 : j < items2.size), EqIn prog w A.in1 s items[j] items2[j] (e j)) (h : Q (.bool (!(List.range items.size).all e)) s) : wpAny (model prog w) A (richCompare .NotEq (.ref l) (.ref b)) Q E s := by
  obtain ⟨⟨cls, dd, data, sl⟩, ho, hc, n, hd⟩ := id hl
  obtain ⟨⟨cls2, dd2, data2, sl2⟩, ho2, hc2, n2, hd2⟩ := id hb
  simp only at hc hd hc2 hd2
  subst hc hd hc2 hd2
  exact wpAny_richCompare_same_room (T := "list") (op := .NotEq) ⟨_, ho, rfl⟩ ⟨_, ho2, rfl⟩ F.slot_list_ne (call_meetsIn F.slot_list_ne ⟨_, ho, rfl⟩ F.entry_list_ne (F.args_list_ne_2 _ _) (list_neIn l b items items2 n n2 dd dd2 sl sl2 hsz e)
    ⟨ho, ho2, he, show Value.bool (!(List.range items.size).all e) ≠ Value.notImplemented ∧ Q (.bool (!(List.range items.size).all e)) s from ⟨(fun x => nomatch x), h⟩⟩) hu
end
section
open PySem.W
variable {X : Cx}
theorem valV_mem {κ : Type} [DecidableEq κ] {k : κ} {u : V} : ∀ (ks : List (κ × V)), (ks.map (·.1)).Nodup → (k, u) ∈ ks → valV ks k = some u
  | [], _, hm => by cases hm
  | p :: r, nd, hm => by
    rw [List.map_cons, List.nodup_cons] at nd
    unfold valV
    rw [List.find?_cons]
    rcases List.mem_cons.mp hm with h | h
    · rw [← h, decide_eq_true rfl]
      rfl
    · have e : p.1 ≠ k := fun e => nd.1 (by rw [e]; exact List.mem_map_of_mem (f := (·.1)) h)
      rw [decide_eq_false e]
      exact valV_mem r nd.2 h
/-- two dicts of the same entries -/
def SameD (K : PySem.W.Frag) (H : Hp) (u v : V) : Prop := ∃ a b ks, u = .ref a ∧ v = .ref b ∧ a ≠ b ∧ H a = some (.dK ks) ∧ H b = some (.dK ks) ∧ (ks.map (·.1)).Nodup ∧ ∀ p ∈ ks, EqV K H p.2 p.2
theorem eqV_tree {pins : List (Addr × Obj)} {σ : L2.St} {H : Hp} {s : Shared} (I : Inv X pins σ H s) {x : V} {v y : Value} (h : EqV X.K H x x) (rv : RelV x v) (ry : RelV x y) : EqTree X.prog X.w s 70 v y true := by
  cases h with
  | same c =>
    obtain rfl : v = Value.ref c := rv
    obtain rfl : y = Value.ref c := ry
    exact .same
  | @data _ _ d e hd hd2 sd se hq =>
    obtain ⟨_, R1⟩ := Dp.reads I d x v hd rv
    obtain ⟨_, R2⟩ := Dp.reads I e x y hd2 ry
    refine .leaf fun A hu => ?_
    have := SeqAt.eqAt_reads d e A s v y _ _ R1 R2 (SeqAt.canLay_of_shaped sd) (SeqAt.canLay_of_shaped se) (SeqAt.room_of_shaped sd (by omega))
    rw [hq] at this
    exact this
theorem sameD_tree {pins : List (Addr × Obj)} {σ : L2.St} {H : Hp} {s : Shared} (I : Inv X pins σ H s) {a b : Addr} {ks : List (Key × V)} (hne : a ≠ b) (ha : H a = some (.dK ks)) (hb : H b = some (.dK ks)) (nd : (ks.map (·.1)).Nodup) (hv : ∀ p ∈ ks, EqV X.K H p.2 p.2) : EqTree X.prog X.w s 71 (.ref a) (.ref b) true := by
  obtain ⟨_, ya, va, ra, da⟩ := (show ObjOk X.prog X.w H s.heap a (.dK ks) from I.hok a _ ha)
  obtain ⟨_, yb, vb, rb, db⟩ := (show ObjOk X.prog X.w H s.heap b (.dK ks) from I.hok b _ hb)
  have item : ∀ k v, (k, v) ∈ va → ∃ u, (k, u) ∈ ks ∧ RelV u v := fun k v hm => by
    obtain ⟨i, hi, e⟩ := List.getElem_of_mem hm
    have hki : i < ks.length := by rw [ra.length]; exact hi
    obtain ⟨z, hz, ez⟩ := paired_get ra (List.getElem?_eq_getElem hki)
    rw [List.getElem?_eq_getElem hi, e] at hz
    obtain rfl := Option.some.inj hz
    obtain ⟨e1, ru⟩ := ez
    exact ⟨(ks[i]).2, by rw [show (k, (ks[i]).2) = ks[i] from Prod.ext e1.symm rfl]; exact List.getElem_mem hki, ru⟩
  have found : ∀ k u, (k, u) ∈ ks → valV ks k = some u := fun k u hm => valV_mem ks nd hm
  have t := EqTree.dicts (e := fun _ => true) (n := 70) hne ya yb da db fun k v y hm hy => by
    obtain ⟨u, hu, ru⟩ := item k v hm
    have at_ : RelO (valV ks k) (valueAt vb k) := rb.val _
    rw [found k u hu, hy] at at_
    exact eqV_tree I (hv _ hu) ru at_
  have e : (va.length == vb.length && va.all fun p => (valueAt vb p.1).isSome && true) = true := by
    rw [Bool.and_eq_true, beq_iff_eq, List.all_eq_true]
    refine ⟨by rw [← ra.length, ← rb.length], fun p hp => ?_⟩
    obtain ⟨u, hu, _⟩ := item p.1 p.2 hp
    have at_ : RelO (valV ks p.1) (valueAt vb p.1) := rb.val _
    rw [found _ u hu] at at_
    obtain ⟨y, hy, _⟩ := at_.some_of
    rw [hy]
    rfl
  rw [e] at t
  exact t
def rNeDicts (K : PySem.W.Frag) : R2 := fun x y H Q => ∃ a b xs ys, x = V.ref a ∧ y = V.ref b ∧ SqL K H a xs ∧ SqL K H b ys ∧ Paired (SameD K H) xs ys ∧ Q (.bl false) H
theorem op_neDicts (hu : X.A.units + 128 < cLine) : OpR X (compareOp .NotEq) (rNeDicts X.K) := by
  intro pins s σ H x y v u Q I rx ry h
  obtain ⟨a, b, xs, ys, rfl, rfl, ha, hb, hp, q⟩ := h
  obtain rfl : v = Value.ref a := rx
  obtain rfl : u = Value.ref b := ry
  obtain ⟨as, ra, pa, za⟩ := I.list ha
  obtain ⟨bs, rb, pb, zb⟩ := I.list hb
  have la : as.length = xs.length := ra.length.symm
  have lb : bs.length = ys.length := rb.length.symm
  have lab : xs.length = ys.length := hp.length
  show wpAny (model X.prog X.w) X.A (richCompare .NotEq (.ref a) (.ref b)) (EP X pins σ Q) X.xe s
  refine rcNeIn_lists (e := fun _ => true) pa.isList pb.isList (by simp; omega) (by omega) (fun j h1 h2 => ?_) (fin_bl I q (by simp))
  have i1 : j < xs.length := by simp at h1; omega
  have i2 : j < ys.length := by omega
  obtain ⟨u1, g1, r1⟩ := ra.get (List.getElem?_eq_getElem i1)
  obtain ⟨u2, g2, r2⟩ := rb.get (List.getElem?_eq_getElem i2)
  have e1 : as.toArray[j] = u1 := by
    have := (List.getElem?_eq_some_iff.mp g1).2
    simpa using this
  have e2 : bs.toArray[j] = u2 := by
    have := (List.getElem?_eq_some_iff.mp g2).2
    simpa using this
  rw [e1, e2]
  obtain ⟨y2, hy2, he⟩ := L2.paired_get hp (List.getElem?_eq_getElem i1)
  rw [List.getElem?_eq_getElem i2] at hy2
  obtain rfl := Option.some.inj hy2
  obtain ⟨c, d, ks, ec, ed, hne, hc, hd, nd, hv⟩ := he
  rw [ec] at r1
  rw [ed] at r2
  obtain rfl : u1 = Value.ref c := r1
  obtain rfl : u2 = Value.ref d := r2
  exact (sameD_tree I hne hc hd nd hv).at X.A.in1 (by show X.A.units + 1 + 71 < cLine; omega)
end
end My

/-! My own rule: sorted(xs), xs a list of tuples of one text or more. -/
namespace My
open PySem PySem.Spec PyProof.Rows L2
abbrev WayB := Addr × (Str × List Str)
def wayE (e : Str × List Str) : PyData := .tuple (.str e.1 :: e.2.map PyData.str)
theorem alike_strs : ∀ xs ys : List Str, PySem.W.alikeAll (xs.map PyData.str) (ys.map PyData.str) = true
  | [], _ => by simp [PySem.W.alikeAll]
  | _ :: _, [] => by simp [PySem.W.alikeAll]
  | x :: xs, y :: ys => by
    show PySem.W.alikeAll (.str x :: xs.map PyData.str) (.str y :: ys.map PyData.str) = true
    rw [PySem.W.alikeAll, alike_strs xs ys]
    simp [PySem.W.alike]
theorem alike_wayE (a b : Str × List Str) : PySem.W.alike (wayE a) (wayE b) = true := by
  unfold wayE
  rw [PySem.W.alike]
  exact alike_strs (a.1 :: a.2) (b.1 :: b.2)
theorem depth_strs : ∀ xs : List Str, PyData.depthAll (xs.map PyData.str) = 0
  | [] => by simp [PyData.depthAll]
  | x :: xs => by
    show PyData.depthAll (.str x :: xs.map PyData.str) = 0
    rw [PyData.depthAll, depth_strs xs]
    simp [PyData.depth]
theorem depth_wayE (a : Str × List Str) : (wayE a).depth ≤ 1 := by
  unfold wayE
  rw [PyData.depth]
  have := depth_strs (a.1 :: a.2)
  rw [List.map_cons] at this
  omega
theorem dpA_strs {K : PySem.W.Frag} {H : Hp} : ∀ xs : List Str, DpAll K H (xs.map V.str) (xs.map PyData.str)
  | [] => .nil
  | x :: xs => .cons (.str x) (dpA_strs xs)
theorem each_ways {K : PySem.W.Frag} {X : Cx} {pins : List (Addr × Obj)} {σ : L2.St} {H : Hp} {s : Shared} (I : Inv X pins σ H s) : ∀ {bs : List WayB} {us : List Value}, Vals (bs.map fun b => V.ref b.1) us → (∀ b ∈ bs, SqT X.K H b.1 ((b.2.1 :: b.2.2).map V.str)) →
    PySem.W.EachIs (fun v b => v = Value.ref b.1) us bs ∧ PySem.W.EachIs (fun v b => ∃ as, Reads s.heap v (wayE b.2) as) us bs
  | [], _, .nil, _ => ⟨.nil, .nil⟩
  | b :: bs, _, .cons r t, h => by
    have r : _ = Value.ref b.1 := r
    subst r
    obtain ⟨e1, e2⟩ := each_ways (K := K) I t fun c hc => h c (List.mem_cons_of_mem _ hc)
    exact ⟨.cons rfl e1, .cons (Dp.reads I _ (V.ref b.1) _ (.tup (h b List.mem_cons_self) (dpA_strs (b.2.1 :: b.2.2))) rfl) e2⟩
theorem vals_eachW : ∀ {us : List Value} {bs : List WayB}, PySem.W.EachIs (fun v b => v = Value.ref b.1) us bs → Vals (bs.map fun b => V.ref b.1) us
  | _, _, .nil => .nil
  | _, _, .cons h t => .cons h (vals_eachW t)
section
variable {X : Cx}
def rSortWays (K : PySem.W.Frag) : List V → Hp → VK → Prop := fun vs H Q => ∃ (a : Addr) (bs : List WayB), vs = [V.ref a] ∧ SqL K H a (bs.map fun b => V.ref b.1) ∧ (∀ b ∈ bs, SqT K H b.1 ((b.2.1 :: b.2.2).map V.str)) ∧
  ∀ (ys : List WayB) p, ys.Perm bs → H p = none → Q (.ref p) (upd H p (.lst (ys.map fun b => V.ref b.1)))
theorem cr_sortWays (hu : X.A.units + 64 < cLine) : CallR X (.builtin "sorted") (rSortWays X.K) := by
  intro pins s σ H vs us Q I r h
  obtain ⟨a, bs, rfl, hs, hb, q⟩ := h
  obtain ⟨its, rv, hl, hz⟩ := I.list hs
  rw [Vals.ref1 r]
  obtain ⟨e1, e2⟩ := each_ways (K := X.K) I rv hb
  have hlen : bs.length ≤ sizeLine := by rw [List.length_map] at hz; exact hz
  refine PySem.W.sorted_data (enc := fun b : WayB => wayE b.2) hl.isList e1 e2 (PySem.W.AllAlike.of fun b b' => alike_wayE b.2 b'.2) (PySem.W.Sortable.tuples fun b => ⟨_, _, rfl⟩) hlen (fun b _ => by have := depth_wayE b.2; omega) fun out ho e3 => ?_
  obtain ⟨ep, he'⟩ := PyProof.Rows.sortedAll_at s.heap its out.toArray
  have hp := List.mergeSort_perm bs (PySem.W.dataLe false fun b : WayB => wayE b.2)
  generalize bs.mergeSort (PySem.W.dataLe false fun b : WayB => wayE b.2) = ys at e3 hp
  have hl2 : (ys.map fun b : WayB => V.ref b.1).length ≤ sizeLine := by rw [List.length_map, hp.length_eq]; exact hlen
  exact ⟨.ref _, upd H (s.heap.objs.size + 1) (.lst (ys.map fun b => V.ref b.1)), I.laid (t' := s.toks) (fun _ _ => PyProof.Rows.sortedAll_old) (Nat.le_succ _) ⟨hl2, out, ep, vals_eachW e3, he'⟩, rfl, q _ _ hp (I.hok.fresh (Nat.le_succ _))⟩
end
end My

/-! My own rules: != of two dicts of the same entries; all parameters by keyword, in any order. -/
namespace My
open PySem PySem.Spec PyProof.Rows L2
section
open PySem.W PySem.SeqAt
variable {X : Cx}
theorem eqV_at {pins : List (Addr × Obj)} {σ : L2.St} {H : Hp} {s : Shared} (I : Inv X pins σ H s) {x : V} {v y : Value} {A : Around} (hu : A.units + 70 < cLine) (h : EqV X.K H x x) (rv : RelV x v) (ry : RelV x y) : EqAt A s v y true := by
  cases h with
  | same c =>
    obtain rfl : v = Value.ref c := rv
    obtain rfl : y = Value.ref c := ry
    exact EqAt.same _
  | @data _ _ d e hd hd2 sd se hq =>
    obtain ⟨_, R1⟩ := Dp.reads I d x v hd rv
    obtain ⟨_, R2⟩ := Dp.reads I e x y hd2 ry
    have := SeqAt.eqAt_reads d e A s v y _ _ R1 R2 (SeqAt.canLay_of_shaped sd) (SeqAt.canLay_of_shaped se) (SeqAt.room_of_shaped sd (by omega))
    rw [hq] at this
    exact this
def rNeDS (K : PySem.W.Frag) : R2 := fun x y H Q => SameD K H x y ∧ Q (.bl false) H
theorem op_neDS (hu : X.A.units + 128 < cLine) : OpR X (compareOp .NotEq) (rNeDS X.K) := by
  intro pins s σ H x y v u Q I rx ry h
  obtain ⟨⟨a, b, ks, rfl, rfl, hne, ha, hb, nd, hv⟩, q⟩ := h
  cases rx
  cases ry
  obtain ⟨_, ya, va, ra, da⟩ := (show ObjOk X.prog X.w H s.heap a (.dK ks) from I.hok a _ ha)
  obtain ⟨_, yb, vb, rb, db⟩ := (show ObjOk X.prog X.w H s.heap b (.dK ks) from I.hok b _ hb)
  obtain ⟨r, hr, er⟩ := hits_of (A := X.A.in1) (s := s) (vb := vb) va (fun _ => true) fun i k v hk => by
    have hk' : i < va.length := (List.getElem?_eq_some_iff.mp hk).1
    have hki : i < ks.length := by rw [ra.length]; exact hk'
    obtain ⟨z, hz, ez⟩ := paired_get ra (List.getElem?_eq_getElem hki)
    rw [hk] at hz
    obtain rfl := Option.some.inj hz
    obtain ⟨e1, ru⟩ := ez
    have hm : (k, (ks[i]).2) ∈ ks := by rw [show (k, (ks[i]).2) = ks[i] from Prod.ext e1.symm rfl]; exact List.getElem_mem hki
    have at_ : RelO (valV ks k) (valueAt vb k) := rb.val _
    rw [valV_mem ks nd hm] at at_
    obtain ⟨y, hy, ry⟩ := at_.some_of
    exact .inr ⟨y, hy, eqV_at I (by show X.A.units + 1 + 70 < cLine; omega) (hv _ hm) ru ry⟩
  refine PySem.W.keq_ne (r := r) ya yb da db (by omega) (fun _ => hr) (fin_bl I q ?_)
  have hl : va.length = vb.length := by rw [← ra.length, ← rb.length]
  have : r = true := er.mpr fun _ _ => rfl
  rw [this, hl]
  simp
end
/-- all parameters by keyword, in another order -/
def kPerm {α : Type} (is : List Nat) : List α → List α → List α
  | [], zs => permL is zs
  | _ :: _, _ => []
theorem kbinds_perm {K : PySem.W.Frag} {fd : FuncData} {ps ks : List Str} {is : List Nat} (h0 : 0 < ps.length) (h : ∀ (s : Shared) (ws : List Value), K.In s.heap → (permL is ws).length = ps.length → BindsTo s fd ⟨[], ks.zip ws⟩ (ps.zip (permL is ws))) : KBinds K fd ps ks (kPerm is) (kPerm is) where
  to := fun s us ws hK hl => by
    cases us with
    | nil => exact h s ws hK hl
    | cons u r =>
      have z : (0 : Nat) = ps.length := hl
      omega
  rel := fun {vs us zs ws} r rz => by
    cases r with
    | nil => exact permL_rel is rz
    | cons _ _ => exact .nil
/-- len of a list or a tuple, within a comprehension -/
def rLenS (K : PySem.W.Frag) : List V → Hp → VK → Prop := fun xs H Q => ∃ p ys, xs = [V.ref p] ∧ (SqL K H p ys ∨ SqT K H p ys) ∧ Q (.int (ys.length : Nat)) H
end My

namespace My
open PySem PySem.Spec PyProof.Rows L2
def topS (i : Nat) : Stmt := PySem.Challenge.pw_extralink_k62_cut_load.main.body.getD i (.Pass ⟨0, 0, 0, 0⟩)
abbrev s_valid_name : Stmt := topS 18
theorem sc_valid_name : FnScope ["text", "char"] ["text"] (defScope s_valid_name) := ⟨rfl, rfl, rfl, by decide +kernel, rfl, by decide +kernel, by decide +kernel⟩
abbrev s_as_ratio : Stmt := topS 24
theorem sc_as_ratio : FnScope ["value"] ["value"] (defScope s_as_ratio) := ⟨rfl, rfl, rfl, by decide +kernel, rfl, by decide +kernel, by decide +kernel⟩
abbrev s_ordered_places : Stmt := topS 30
theorem sc_ordered_places : FnScope ["table", "start", "end", "inner", "ends", "place"] ["table", "start", "end"] (defScope s_ordered_places) := ⟨rfl, rfl, rfl, by decide +kernel, rfl, by decide +kernel, by decide +kernel⟩
abbrev s_places_behind : Stmt := topS 31
theorem sc_places_behind : FnScope ["table", "first", "found", "waiting", "place", "tail", "head"] ["table", "first"] (defScope s_places_behind) := ⟨rfl, rfl, rfl, by decide +kernel, rfl, by decide +kernel, by decide +kernel⟩
abbrev s_useful_names : Stmt := topS 32
theorem sc_useful_names : FnScope ["table", "start", "end", "reached", "name", "tail", "head"] ["table", "start", "end"] (defScope s_useful_names) := ⟨rfl, rfl, rfl, by decide +kernel, rfl, by decide +kernel, by decide +kernel⟩
abbrev s_check_ends : Stmt := topS 33
theorem sc_check_ends : FnScope ["start", "end", "place"] ["start", "end"] (defScope s_check_ends) := ⟨rfl, rfl, rfl, by decide +kernel, rfl, by decide +kernel, by decide +kernel⟩
abbrev s_check_names : Stmt := topS 34
theorem sc_check_names : FnScope ["links", "known", "name", "tail", "head", "place"] ["links"] (defScope s_check_names) := ⟨rfl, rfl, rfl, by decide +kernel, rfl, by decide +kernel, by decide +kernel⟩
abbrev s_check_rounds : Stmt := topS 35
theorem sc_check_rounds : FnScope ["table", "name", "tail", "head"] ["table"] (defScope s_check_rounds) := ⟨rfl, rfl, rfl, by decide +kernel, rfl, by decide +kernel, by decide +kernel⟩
abbrev s_check_use : Stmt := topS 36
theorem sc_check_use : FnScope ["table", "start", "end", "useful", "name"] ["table", "start", "end"] (defScope s_check_use) := ⟨rfl, rfl, rfl, by decide +kernel, rfl, by decide +kernel, by decide +kernel⟩
abbrev s_outflow : Stmt := topS 40
theorem sc_outflow : FnScope ["network", "loads", "places", "total", "name", "tail", "head"] ["network", "loads", "places"] (defScope s_outflow) := ⟨rfl, rfl, rfl, by decide +kernel, rfl, by decide +kernel, by decide +kernel⟩
abbrev s_cut_load : Stmt := topS 42
theorem sc_cut_load : FnScope ["network", "loads", "places", "place"] ["network", "loads", "places"] (defScope s_cut_load) := ⟨rfl, rfl, rfl, by decide +kernel, rfl, by decide +kernel, by decide +kernel⟩
abbrev s_check_loads : Stmt := topS 43
theorem sc_check_loads : FnScope ["network", "loads", "name"] ["network", "loads"] (defScope s_check_loads) := ⟨rfl, rfl, rfl, by decide +kernel, rfl, by decide +kernel, by decide +kernel⟩
abbrev s_start : Stmt := topS 45
theorem sc_start : FnScope ["_law_script", "_law_cell"] ["_law_script"] (defScope s_start) := ⟨rfl, rfl, rfl, by decide +kernel, rfl, by decide +kernel, by decide +kernel⟩
abbrev s_take : Stmt := topS 46
theorem sc_take : FnScope ["_law_state", "_law_limit", "_law_cells", "_law_at", "_law_cell", "_law_number"] ["_law_state", "_law_limit"] (defScope s_take) := ⟨rfl, rfl, rfl, by decide +kernel, rfl, by decide +kernel, by decide +kernel⟩
abbrev s_shuffled : Stmt := topS 47
theorem sc_shuffled : FnScope ["_law_state", "_law_items", "_law_rest", "_law_told_here", "_law_k"] ["_law_state", "_law_items"] (defScope s_shuffled) := ⟨rfl, rfl, rfl, by decide +kernel, rfl, by decide +kernel, by decide +kernel⟩
abbrev s_grown : Stmt := topS 48
theorem sc_grown : FnScope ["_law_state", "_law_turns", "_law_wild", "_law_links", "_law_order", "_law_turn", "_law_plan", "_law_spot", "_law_tail", "_law_head", "_law_place", "_law_at", "_law_low", "_law_high", "_law_k"] ["_law_state", "_law_turns", "_law_wild"] (defScope s_grown) := ⟨rfl, rfl, rfl, by decide +kernel, rfl, by decide +kernel, by decide +kernel⟩
abbrev s_named : Stmt := topS 49
theorem sc_named : FnScope ["_law_state", "_law_links", "_law_count", "_law_words", "_law_spotted", "_law_names", "_law_told_here", "_law_k"] ["_law_state", "_law_links", "_law_count"] (defScope s_named) := ⟨rfl, rfl, rfl, by decide +kernel, rfl, by decide +kernel, by decide +kernel⟩
abbrev s_network : Stmt := topS 50
theorem sc_network : FnScope ["_law_state", "_law_wild", "_law_links", "_law_count"] ["_law_state", "_law_wild"] (defScope s_network) := ⟨rfl, rfl, rfl, by decide +kernel, rfl, by decide +kernel, by decide +kernel⟩
abbrev s_ways : Stmt := topS 51
theorem sc_ways : FnScope ["_law_links", "_law_start_here", "_law_end", "_law_rows", "_law_ways_here", "_law_turn", "_law_more", "_law_way", "_law_place", "_law_name", "_law_tail", "_law_head", "_law_row"] ["_law_links", "_law_start_here", "_law_end"] (defScope s_ways) := ⟨rfl, rfl, rfl, by decide +kernel, rfl, by decide +kernel, by decide +kernel⟩
abbrev s_loads : Stmt := topS 52
theorem sc_loads : FnScope ["_law_links", "_law_ways_here", "_law_amounts_here", "_law_borne", "_law_name", "_law_tail", "_law_head", "_law_k"] ["_law_links", "_law_ways_here", "_law_amounts_here"] (defScope s_loads) := ⟨rfl, rfl, rfl, by decide +kernel, rfl, by decide +kernel, by decide +kernel⟩
abbrev s_amounts : Stmt := topS 53
theorem sc_amounts : FnScope ["_law_state", "_law_ways_here", "_law_most", "_law_amounts_here", "_law_turn", "_law_spot", "_law_way"] ["_law_state", "_law_ways_here", "_law_most"] (defScope s_amounts) := ⟨rfl, rfl, rfl, by decide +kernel, rfl, by decide +kernel, by decide +kernel⟩
abbrev s_ratios : Stmt := topS 54
theorem sc_ratios : FnScope ["_law_borne", "_law_bottom", "_law_told_here", "_law_name"] ["_law_borne", "_law_bottom"] (defScope s_ratios) := ⟨rfl, rfl, rfl, by decide +kernel, rfl, by decide +kernel, by decide +kernel⟩
abbrev s_told : Stmt := topS 55
theorem sc_told : FnScope ["_law_net", "_law_handed", "_law_spots", "e"] ["_law_net", "_law_handed", "_law_spots"] (defScope s_told) := ⟨rfl, rfl, rfl, by decide +kernel, rfl, by decide +kernel, by decide +kernel⟩
abbrev s_due : Stmt := topS 56
theorem sc_due : FnScope ["_law_links", "_law_borne", "_law_spots", "_law_bottom", "_law_known", "_law_place", "_law_total", "_law_name", "_law_tail", "_law_head", "_law_side", "_law_link"] ["_law_links", "_law_borne", "_law_spots", "_law_bottom"] (defScope s_due) := ⟨rfl, rfl, rfl, by decide +kernel, rfl, by decide +kernel, by decide +kernel⟩
abbrev s_law : Stmt := topS 57
theorem sc_law : FnScope ["_law_script", "_law_state", "_law_links", "_law_start_here", "_law_end", "_law_ways_here", "_law_net", "_law_amounts_here", "_law_borne", "_law_bottom", "_law_known", "_law_spots", "_law_with_start", "_law_told_here", "_law_name", "_law_tail", "_law_head", "_law_handed", "_law_kept", "_law_given", "_law_due_here", "_law_k", "_law_link", "_law_place"] ["_law_script"] (defScope s_law) := ⟨rfl, rfl, rfl, by decide +kernel, rfl, by decide +kernel, by decide +kernel⟩
abbrev s_BadName_init : Stmt := inClass (topS 4) 0
theorem sc_BadName_init : FnScope ["self", "name"] ["self", "name"] (defScope s_BadName_init) := ⟨rfl, rfl, rfl, by decide +kernel, rfl, by decide +kernel, by decide +kernel⟩
abbrev s_DuplicateName_init : Stmt := inClass (topS 5) 0
theorem sc_DuplicateName_init : FnScope ["self", "name"] ["self", "name"] (defScope s_DuplicateName_init) := ⟨rfl, rfl, rfl, by decide +kernel, rfl, by decide +kernel, by decide +kernel⟩
abbrev s_UnknownName_init : Stmt := inClass (topS 6) 0
theorem sc_UnknownName_init : FnScope ["self", "name"] ["self", "name"] (defScope s_UnknownName_init) := ⟨rfl, rfl, rfl, by decide +kernel, rfl, by decide +kernel, by decide +kernel⟩
abbrev s_BadCount_init : Stmt := inClass (topS 7) 0
theorem sc_BadCount_init : FnScope ["self", "count"] ["self", "count"] (defScope s_BadCount_init) := ⟨rfl, rfl, rfl, by decide +kernel, rfl, by decide +kernel, by decide +kernel⟩
abbrev s_HasRound_init : Stmt := inClass (topS 11) 0
theorem sc_HasRound_init : FnScope ["self", "name"] ["self", "name"] (defScope s_HasRound_init) := ⟨rfl, rfl, rfl, by decide +kernel, rfl, by decide +kernel, by decide +kernel⟩
abbrev s_UselessLink_init : Stmt := inClass (topS 12) 0
theorem sc_UselessLink_init : FnScope ["self", "name"] ["self", "name"] (defScope s_UselessLink_init) := ⟨rfl, rfl, rfl, by decide +kernel, rfl, by decide +kernel, by decide +kernel⟩
abbrev s_Ratio_init : Stmt := inClass (topS 23) 0
theorem sc_Ratio_init : FnScope ["self", "top", "bottom", "common"] ["self", "top", "bottom"] (defScope s_Ratio_init) := ⟨rfl, rfl, rfl, by decide +kernel, rfl, by decide +kernel, by decide +kernel⟩
abbrev s_Ratio_top : Stmt := inClass (topS 23) 2
theorem sc_Ratio_top : FnScope ["self"] ["self"] (defScope s_Ratio_top) := ⟨rfl, rfl, rfl, by decide +kernel, rfl, by decide +kernel, by decide +kernel⟩
abbrev s_Ratio_bottom : Stmt := inClass (topS 23) 3
theorem sc_Ratio_bottom : FnScope ["self"] ["self"] (defScope s_Ratio_bottom) := ⟨rfl, rfl, rfl, by decide +kernel, rfl, by decide +kernel, by decide +kernel⟩
abbrev s_Ratio_neg : Stmt := inClass (topS 23) 7
theorem sc_Ratio_neg : FnScope ["self"] ["self"] (defScope s_Ratio_neg) := ⟨rfl, rfl, rfl, by decide +kernel, rfl, by decide +kernel, by decide +kernel⟩
abbrev s_Ratio_add : Stmt := inClass (topS 23) 8
theorem sc_Ratio_add : FnScope ["self", "other", "addend", "top"] ["self", "other"] (defScope s_Ratio_add) := ⟨rfl, rfl, rfl, by decide +kernel, rfl, by decide +kernel, by decide +kernel⟩
abbrev s_Ratio_sub : Stmt := inClass (topS 23) 10
theorem sc_Ratio_sub : FnScope ["self", "other"] ["self", "other"] (defScope s_Ratio_sub) := ⟨rfl, rfl, rfl, by decide +kernel, rfl, by decide +kernel, by decide +kernel⟩
abbrev s_Ratio_eq : Stmt := inClass (topS 23) 14
theorem sc_Ratio_eq : FnScope ["self", "other"] ["self", "other"] (defScope s_Ratio_eq) := ⟨rfl, rfl, rfl, by decide +kernel, rfl, by decide +kernel, by decide +kernel⟩
abbrev s_Network_init : Stmt := inClass (topS 28) 2
theorem sc_Network_init : FnScope ["self", "links", "start", "end", "given", "table", "places", "name", "tail", "head", "place"] ["self", "links", "start", "end"] (defScope s_Network_init) := ⟨rfl, rfl, rfl, by decide +kernel, rfl, by decide +kernel, by decide +kernel⟩
abbrev s_Network_names : Stmt := inClass (topS 28) 6
theorem sc_Network_names : FnScope ["self"] ["self"] (defScope s_Network_names) := ⟨rfl, rfl, rfl, by decide +kernel, rfl, by decide +kernel, by decide +kernel⟩
abbrev s_Network_places : Stmt := inClass (topS 28) 7
theorem sc_Network_places : FnScope ["self"] ["self"] (defScope s_Network_places) := ⟨rfl, rfl, rfl, by decide +kernel, rfl, by decide +kernel, by decide +kernel⟩
abbrev s_Network_getitem : Stmt := inClass (topS 28) 13
theorem sc_Network_getitem : FnScope ["self", "name"] ["self", "name"] (defScope s_Network_getitem) := ⟨rfl, rfl, rfl, by decide +kernel, rfl, by decide +kernel, by decide +kernel⟩
set_option maxHeartbeats 0 in
structure Txt (K : PySem.W.Frag) (mg : Str → Option Value) where
  f_BadName : Addr
  m_BadName : mg "BadName" = some (.ref f_BadName)
  f_DuplicateName : Addr
  m_DuplicateName : mg "DuplicateName" = some (.ref f_DuplicateName)
  f_UnknownName : Addr
  m_UnknownName : mg "UnknownName" = some (.ref f_UnknownName)
  f_BadCount : Addr
  m_BadCount : mg "BadCount" = some (.ref f_BadCount)
  f_HasRound : Addr
  m_HasRound : mg "HasRound" = some (.ref f_HasRound)
  f_UselessLink : Addr
  m_UselessLink : mg "UselessLink" = some (.ref f_UselessLink)
  f_Ratio : Addr
  m_Ratio : mg "Ratio" = some (.ref f_Ratio)
  cl_Ratio : Cls K f_Ratio
  ic_Ratio : C8.InsC K f_Ratio
  na_Ratio_top : NoAttr K f_Ratio "_top"
  na_Ratio_bottom : NoAttr K f_Ratio "_bottom"
  sn_Ratio_int : PySem.W.subIn K (.type "int") (.ref f_Ratio) = some false
  ki_Ratio_int : PySem.W.kitOne K (.type "int") (.ref f_Ratio) = some false
  f_Network : Addr
  m_Network : mg "Network" = some (.ref f_Network)
  cl_Network : Cls K f_Network
  ic_Network : C8.InsC K f_Network
  na_Network_start : NoAttr K f_Network "_start"
  na_Network_end : NoAttr K f_Network "_end"
  na_Network_links : NoAttr K f_Network "_links"
  na_Network_places : NoAttr K f_Network "_places"
  na_Network_behind : NoAttr K f_Network "_behind"
  f_valid_name : Addr
  d_valid_name : FuncData
  F_valid_name : Fun K "valid_name" "valid_name" s_valid_name f_valid_name d_valid_name
  b_valid_name : Binds K d_valid_name ["text"] []
  m_valid_name : mg "valid_name" = some (.ref f_valid_name)
  f_as_ratio : Addr
  d_as_ratio : FuncData
  F_as_ratio : Fun K "as_ratio" "as_ratio" s_as_ratio f_as_ratio d_as_ratio
  b_as_ratio : Binds K d_as_ratio ["value"] []
  m_as_ratio : mg "as_ratio" = some (.ref f_as_ratio)
  f_ordered_places : Addr
  d_ordered_places : FuncData
  F_ordered_places : Fun K "ordered_places" "ordered_places" s_ordered_places f_ordered_places d_ordered_places
  b_ordered_places : Binds K d_ordered_places ["table", "start", "end"] []
  m_ordered_places : mg "ordered_places" = some (.ref f_ordered_places)
  f_places_behind : Addr
  d_places_behind : FuncData
  F_places_behind : Fun K "places_behind" "places_behind" s_places_behind f_places_behind d_places_behind
  b_places_behind : Binds K d_places_behind ["table", "first"] []
  m_places_behind : mg "places_behind" = some (.ref f_places_behind)
  f_useful_names : Addr
  d_useful_names : FuncData
  F_useful_names : Fun K "useful_names" "useful_names" s_useful_names f_useful_names d_useful_names
  b_useful_names : Binds K d_useful_names ["table", "start", "end"] []
  m_useful_names : mg "useful_names" = some (.ref f_useful_names)
  f_check_ends : Addr
  d_check_ends : FuncData
  F_check_ends : Fun K "check_ends" "check_ends" s_check_ends f_check_ends d_check_ends
  b_check_ends : Binds K d_check_ends ["start", "end"] []
  m_check_ends : mg "check_ends" = some (.ref f_check_ends)
  f_check_names : Addr
  d_check_names : FuncData
  F_check_names : Fun K "check_names" "check_names" s_check_names f_check_names d_check_names
  b_check_names : Binds K d_check_names ["links"] []
  m_check_names : mg "check_names" = some (.ref f_check_names)
  f_check_rounds : Addr
  d_check_rounds : FuncData
  F_check_rounds : Fun K "check_rounds" "check_rounds" s_check_rounds f_check_rounds d_check_rounds
  b_check_rounds : Binds K d_check_rounds ["table"] []
  m_check_rounds : mg "check_rounds" = some (.ref f_check_rounds)
  f_check_use : Addr
  d_check_use : FuncData
  F_check_use : Fun K "check_use" "check_use" s_check_use f_check_use d_check_use
  b_check_use : Binds K d_check_use ["table", "start", "end"] []
  m_check_use : mg "check_use" = some (.ref f_check_use)
  f_outflow : Addr
  d_outflow : FuncData
  F_outflow : Fun K "outflow" "outflow" s_outflow f_outflow d_outflow
  b_outflow : Binds K d_outflow ["network", "loads", "places"] []
  m_outflow : mg "outflow" = some (.ref f_outflow)
  f_cut_load : Addr
  d_cut_load : FuncData
  F_cut_load : Fun K "cut_load" "cut_load" s_cut_load f_cut_load d_cut_load
  b_cut_load : Binds K d_cut_load ["network", "loads", "places"] []
  m_cut_load : mg "cut_load" = some (.ref f_cut_load)
  f_check_loads : Addr
  d_check_loads : FuncData
  F_check_loads : Fun K "check_loads" "check_loads" s_check_loads f_check_loads d_check_loads
  b_check_loads : Binds K d_check_loads ["network", "loads"] []
  m_check_loads : mg "check_loads" = some (.ref f_check_loads)
  f_start : Addr
  d_start : FuncData
  F_start : Fun K "_law_start" "_law_start" s_start f_start d_start
  b_start : Binds K d_start ["_law_script"] []
  m_start : mg "_law_start" = some (.ref f_start)
  f_take : Addr
  d_take : FuncData
  F_take : Fun K "_law_take" "_law_take" s_take f_take d_take
  b_take : Binds K d_take ["_law_state", "_law_limit"] []
  m_take : mg "_law_take" = some (.ref f_take)
  f_shuffled : Addr
  d_shuffled : FuncData
  F_shuffled : Fun K "_law_shuffled" "_law_shuffled" s_shuffled f_shuffled d_shuffled
  b_shuffled : Binds K d_shuffled ["_law_state", "_law_items"] []
  m_shuffled : mg "_law_shuffled" = some (.ref f_shuffled)
  f_grown : Addr
  d_grown : FuncData
  F_grown : Fun K "_law_grown" "_law_grown" s_grown f_grown d_grown
  b_grown : Binds K d_grown ["_law_state", "_law_turns", "_law_wild"] []
  m_grown : mg "_law_grown" = some (.ref f_grown)
  f_named : Addr
  d_named : FuncData
  F_named : Fun K "_law_named" "_law_named" s_named f_named d_named
  b_named : Binds K d_named ["_law_state", "_law_links", "_law_count"] []
  m_named : mg "_law_named" = some (.ref f_named)
  f_network : Addr
  d_network : FuncData
  F_network : Fun K "_law_network" "_law_network" s_network f_network d_network
  b_network : Binds K d_network ["_law_state", "_law_wild"] []
  m_network : mg "_law_network" = some (.ref f_network)
  f_ways : Addr
  d_ways : FuncData
  F_ways : Fun K "_law_ways" "_law_ways" s_ways f_ways d_ways
  b_ways : Binds K d_ways ["_law_links", "_law_start_here", "_law_end"] []
  m_ways : mg "_law_ways" = some (.ref f_ways)
  f_loads : Addr
  d_loads : FuncData
  F_loads : Fun K "_law_loads" "_law_loads" s_loads f_loads d_loads
  b_loads : Binds K d_loads ["_law_links", "_law_ways_here", "_law_amounts_here"] []
  m_loads : mg "_law_loads" = some (.ref f_loads)
  f_amounts : Addr
  d_amounts : FuncData
  F_amounts : Fun K "_law_amounts" "_law_amounts" s_amounts f_amounts d_amounts
  b_amounts : Binds K d_amounts ["_law_state", "_law_ways_here", "_law_most"] []
  m_amounts : mg "_law_amounts" = some (.ref f_amounts)
  f_ratios : Addr
  d_ratios : FuncData
  F_ratios : Fun K "_law_ratios" "_law_ratios" s_ratios f_ratios d_ratios
  b_ratios : Binds K d_ratios ["_law_borne", "_law_bottom"] []
  m_ratios : mg "_law_ratios" = some (.ref f_ratios)
  f_told : Addr
  d_told : FuncData
  F_told : Fun K "_law_told" "_law_told" s_told f_told d_told
  b_told : Binds K d_told ["_law_net", "_law_handed", "_law_spots"] []
  m_told : mg "_law_told" = some (.ref f_told)
  f_due : Addr
  d_due : FuncData
  F_due : Fun K "_law_due" "_law_due" s_due f_due d_due
  b_due : Binds K d_due ["_law_links", "_law_borne", "_law_spots", "_law_bottom"] []
  m_due : mg "_law_due" = some (.ref f_due)
  f_BadName_init : Addr
  d_BadName_init : FuncData
  F_BadName_init : Fun K "__init__" "BadName.__init__" s_BadName_init f_BadName_init d_BadName_init
  b_BadName_init : Binds K d_BadName_init ["self", "name"] []
  a_BadName_init : PySem.W.findIn K (.ref f_BadName) "__init__" = some (some (.ref f_BadName_init))
  i_BadName_init : PySem.W.isFn K (.ref f_BadName_init) = true
  f_DuplicateName_init : Addr
  d_DuplicateName_init : FuncData
  F_DuplicateName_init : Fun K "__init__" "DuplicateName.__init__" s_DuplicateName_init f_DuplicateName_init d_DuplicateName_init
  b_DuplicateName_init : Binds K d_DuplicateName_init ["self", "name"] []
  a_DuplicateName_init : PySem.W.findIn K (.ref f_DuplicateName) "__init__" = some (some (.ref f_DuplicateName_init))
  i_DuplicateName_init : PySem.W.isFn K (.ref f_DuplicateName_init) = true
  f_UnknownName_init : Addr
  d_UnknownName_init : FuncData
  F_UnknownName_init : Fun K "__init__" "UnknownName.__init__" s_UnknownName_init f_UnknownName_init d_UnknownName_init
  b_UnknownName_init : Binds K d_UnknownName_init ["self", "name"] []
  a_UnknownName_init : PySem.W.findIn K (.ref f_UnknownName) "__init__" = some (some (.ref f_UnknownName_init))
  i_UnknownName_init : PySem.W.isFn K (.ref f_UnknownName_init) = true
  f_BadCount_init : Addr
  d_BadCount_init : FuncData
  F_BadCount_init : Fun K "__init__" "BadCount.__init__" s_BadCount_init f_BadCount_init d_BadCount_init
  b_BadCount_init : Binds K d_BadCount_init ["self", "count"] []
  a_BadCount_init : PySem.W.findIn K (.ref f_BadCount) "__init__" = some (some (.ref f_BadCount_init))
  i_BadCount_init : PySem.W.isFn K (.ref f_BadCount_init) = true
  f_HasRound_init : Addr
  d_HasRound_init : FuncData
  F_HasRound_init : Fun K "__init__" "HasRound.__init__" s_HasRound_init f_HasRound_init d_HasRound_init
  b_HasRound_init : Binds K d_HasRound_init ["self", "name"] []
  a_HasRound_init : PySem.W.findIn K (.ref f_HasRound) "__init__" = some (some (.ref f_HasRound_init))
  i_HasRound_init : PySem.W.isFn K (.ref f_HasRound_init) = true
  f_UselessLink_init : Addr
  d_UselessLink_init : FuncData
  F_UselessLink_init : Fun K "__init__" "UselessLink.__init__" s_UselessLink_init f_UselessLink_init d_UselessLink_init
  b_UselessLink_init : Binds K d_UselessLink_init ["self", "name"] []
  a_UselessLink_init : PySem.W.findIn K (.ref f_UselessLink) "__init__" = some (some (.ref f_UselessLink_init))
  i_UselessLink_init : PySem.W.isFn K (.ref f_UselessLink_init) = true
  f_Ratio_init : Addr
  d_Ratio_init : FuncData
  F_Ratio_init : FunD K "__init__" "Ratio.__init__" (defArgs s_Ratio_init) (defBody s_Ratio_init) (defScope s_Ratio_init) [V.int 1] [] f_Ratio_init d_Ratio_init
  a_Ratio_init : PySem.W.findIn K (.ref f_Ratio) "__init__" = some (some (.ref f_Ratio_init))
  i_Ratio_init : PySem.W.isFn K (.ref f_Ratio_init) = true
  mk_Ratio : Mk K f_Ratio f_Ratio_init
  f_Ratio_top : Addr
  d_Ratio_top : FuncData
  F_Ratio_top : Fun K "top" "Ratio.top" s_Ratio_top f_Ratio_top d_Ratio_top
  b_Ratio_top : Binds K d_Ratio_top ["self"] []
  p0_Ratio_top : Addr
  p_Ratio_top : PropOf K f_Ratio "top" p0_Ratio_top f_Ratio_top
  f_Ratio_bottom : Addr
  d_Ratio_bottom : FuncData
  F_Ratio_bottom : Fun K "bottom" "Ratio.bottom" s_Ratio_bottom f_Ratio_bottom d_Ratio_bottom
  b_Ratio_bottom : Binds K d_Ratio_bottom ["self"] []
  p0_Ratio_bottom : Addr
  p_Ratio_bottom : PropOf K f_Ratio "bottom" p0_Ratio_bottom f_Ratio_bottom
  f_Ratio_neg : Addr
  d_Ratio_neg : FuncData
  F_Ratio_neg : Fun K "__neg__" "Ratio.__neg__" s_Ratio_neg f_Ratio_neg d_Ratio_neg
  b_Ratio_neg : Binds K d_Ratio_neg ["self"] []
  a_Ratio_neg : PySem.W.findIn K (.ref f_Ratio) "__neg__" = some (some (.ref f_Ratio_neg))
  i_Ratio_neg : PySem.W.isFn K (.ref f_Ratio_neg) = true
  f_Ratio_add : Addr
  d_Ratio_add : FuncData
  F_Ratio_add : Fun K "__add__" "Ratio.__add__" s_Ratio_add f_Ratio_add d_Ratio_add
  b_Ratio_add : Binds K d_Ratio_add ["self", "other"] []
  a_Ratio_add : PySem.W.findIn K (.ref f_Ratio) "__add__" = some (some (.ref f_Ratio_add))
  i_Ratio_add : PySem.W.isFn K (.ref f_Ratio_add) = true
  f_Ratio_sub : Addr
  d_Ratio_sub : FuncData
  F_Ratio_sub : Fun K "__sub__" "Ratio.__sub__" s_Ratio_sub f_Ratio_sub d_Ratio_sub
  b_Ratio_sub : Binds K d_Ratio_sub ["self", "other"] []
  a_Ratio_sub : PySem.W.findIn K (.ref f_Ratio) "__sub__" = some (some (.ref f_Ratio_sub))
  i_Ratio_sub : PySem.W.isFn K (.ref f_Ratio_sub) = true
  f_Ratio_eq : Addr
  d_Ratio_eq : FuncData
  F_Ratio_eq : Fun K "__eq__" "Ratio.__eq__" s_Ratio_eq f_Ratio_eq d_Ratio_eq
  b_Ratio_eq : Binds K d_Ratio_eq ["self", "other"] []
  a_Ratio_eq : PySem.W.findIn K (.ref f_Ratio) "__eq__" = some (some (.ref f_Ratio_eq))
  i_Ratio_eq : PySem.W.isFn K (.ref f_Ratio_eq) = true
  f_Network_init : Addr
  d_Network_init : FuncData
  F_Network_init : Fun K "__init__" "Network.__init__" s_Network_init f_Network_init d_Network_init
  b_Network_init : Binds K d_Network_init ["self", "links", "start", "end"] []
  a_Network_init : PySem.W.findIn K (.ref f_Network) "__init__" = some (some (.ref f_Network_init))
  i_Network_init : PySem.W.isFn K (.ref f_Network_init) = true
  mk_Network : Mk K f_Network f_Network_init
  f_Network_names : Addr
  d_Network_names : FuncData
  F_Network_names : Fun K "names" "Network.names" s_Network_names f_Network_names d_Network_names
  b_Network_names : Binds K d_Network_names ["self"] []
  p0_Network_names : Addr
  p_Network_names : PropOf K f_Network "names" p0_Network_names f_Network_names
  f_Network_places : Addr
  d_Network_places : FuncData
  F_Network_places : Fun K "places" "Network.places" s_Network_places f_Network_places d_Network_places
  b_Network_places : Binds K d_Network_places ["self"] []
  p0_Network_places : Addr
  p_Network_places : PropOf K f_Network "places" p0_Network_places f_Network_places
  f_Network_getitem : Addr
  d_Network_getitem : FuncData
  F_Network_getitem : Fun K "__getitem__" "Network.__getitem__" s_Network_getitem f_Network_getitem d_Network_getitem
  b_Network_getitem : Binds K d_Network_getitem ["self", "name"] []
  a_Network_getitem : PySem.W.findIn K (.ref f_Network) "__getitem__" = some (some (.ref f_Network_getitem))
  i_Network_getitem : PySem.W.isFn K (.ref f_Network_getitem) = true
  f_Ratio_radd : Addr
  op_Ratio_add : OpO K f_Ratio "add" f_Ratio_add f_Ratio_radd
  f_Ratio_rsub : Addr
  op_Ratio_sub : OpO K f_Ratio "sub" f_Ratio_sub f_Ratio_rsub
  oth_Ratio : OthC K f_Ratio f_Ratio_eq
  none_Ratio : NoNe K f_Ratio f_Ratio_eq
  cr_Network : ClX.CRead K f_Network (.type "type")
  tv_Network_MOST_LINKS : Tok
  cv_Network_MOST_LINKS : ClX.CVal K f_Network (.type "type") "MOST_LINKS" (V.int 10) (.int 10 tv_Network_MOST_LINKS)
  tv_Network_MOST_PLACES : Tok
  cv_Network_MOST_PLACES : ClX.CVal K f_Network (.type "type") "MOST_PLACES" (V.int 8) (.int 8 tv_Network_MOST_PLACES)
  dn_Network_getitem : DunC K f_Network "__getitem__" f_Network_getitem
  noi_Ratio_add : NoI K f_Ratio "add"
  noi_Ratio_sub : NoI K f_Ratio "sub"
  e1_Ratio_init : List Value
  v1_Ratio_init : Vals [V.int 1] e1_Ratio_init
  b1_Ratio_init : Binds K d_Ratio_init ["self", "top", "bottom"] e1_Ratio_init
  e2_Ratio_init : List Value
  v2_Ratio_init : Vals [] e2_Ratio_init
  b2_Ratio_init : Binds K d_Ratio_init ["self", "top", "bottom"] e2_Ratio_init
  ox_BadName : OexC K f_BadName
  ix_BadName : PySem.W.findIn K (.ref f_BadName) "__init__" = some (some (.ref f_BadName_init))
  tx_BadName : PySem.W.typeIn K (.ref f_BadName_init) = some (.type "function")
  xf_BadName : XfC K f_BadName
  ec_BadName : ExcC K f_BadName
  no_BadName_name : PySem.W.findIn K (.ref f_BadName) "name" = some none
  ox_DuplicateName : OexC K f_DuplicateName
  ix_DuplicateName : PySem.W.findIn K (.ref f_DuplicateName) "__init__" = some (some (.ref f_DuplicateName_init))
  tx_DuplicateName : PySem.W.typeIn K (.ref f_DuplicateName_init) = some (.type "function")
  xf_DuplicateName : XfC K f_DuplicateName
  ec_DuplicateName : ExcC K f_DuplicateName
  no_DuplicateName_name : PySem.W.findIn K (.ref f_DuplicateName) "name" = some none
  ox_UnknownName : OexC K f_UnknownName
  ix_UnknownName : PySem.W.findIn K (.ref f_UnknownName) "__init__" = some (some (.ref f_UnknownName_init))
  tx_UnknownName : PySem.W.typeIn K (.ref f_UnknownName_init) = some (.type "function")
  xf_UnknownName : XfC K f_UnknownName
  ec_UnknownName : ExcC K f_UnknownName
  no_UnknownName_name : PySem.W.findIn K (.ref f_UnknownName) "name" = some none
  ox_BadCount : OexC K f_BadCount
  ix_BadCount : PySem.W.findIn K (.ref f_BadCount) "__init__" = some (some (.ref f_BadCount_init))
  tx_BadCount : PySem.W.typeIn K (.ref f_BadCount_init) = some (.type "function")
  xf_BadCount : XfC K f_BadCount
  ec_BadCount : ExcC K f_BadCount
  no_BadCount_count : PySem.W.findIn K (.ref f_BadCount) "count" = some none
  ox_HasRound : OexC K f_HasRound
  ix_HasRound : PySem.W.findIn K (.ref f_HasRound) "__init__" = some (some (.ref f_HasRound_init))
  tx_HasRound : PySem.W.typeIn K (.ref f_HasRound_init) = some (.type "function")
  xf_HasRound : XfC K f_HasRound
  ec_HasRound : ExcC K f_HasRound
  no_HasRound_name : PySem.W.findIn K (.ref f_HasRound) "name" = some none
  ox_UselessLink : OexC K f_UselessLink
  ix_UselessLink : PySem.W.findIn K (.ref f_UselessLink) "__init__" = some (some (.ref f_UselessLink_init))
  tx_UselessLink : PySem.W.typeIn K (.ref f_UselessLink_init) = some (.type "function")
  xf_UselessLink : XfC K f_UselessLink
  ec_UselessLink : ExcC K f_UselessLink
  no_UselessLink_name : PySem.W.findIn K (.ref f_UselessLink) "name" = some none
  es_UnknownName_UnknownName : PySem.W.subIn K (.ref f_UnknownName) (.ref f_UnknownName) = some true
  xi_UnknownName_UnknownName : PySem.W.isClsIn K f_UnknownName = true
  xt_UnknownName_UnknownName : PySem.W.typeIn K (.ref f_UnknownName) = some (.type "type")
  kb_cut_load_0_places_loads_network : KBinds K d_cut_load ["network", "loads", "places"] ["places", "loads", "network"] (kPerm [2, 1, 0]) (kPerm [2, 1, 0])
  t_DIGITS : Tok
  c_DIGITS : mg "DIGITS" = some (.str ("0123456789" : Str) t_DIGITS)
  t_LETTERS : Tok
  c_LETTERS : mg "LETTERS" = some (.str ("abcdefghijklmnopqrstuvwxyz" : Str) t_LETTERS)
  t_LONGEST_NAME : Tok
  c_LONGEST_NAME : mg "LONGEST_NAME" = some (.int 6 t_LONGEST_NAME)
  g_gcd : mg "gcd" = some (.builtin "math.gcd")
  n_abs : mg "abs" = none
  n_all : mg "all" = none
  n_dict : mg "dict" = none
  n_int : mg "int" = none
  n_isinstance : mg "isinstance" = none
  n_len : mg "len" = none
  n_list : mg "list" = none
  n_max : mg "max" = none
  n_range : mg "range" = none
  n_set : mg "set" = none
  n_sorted : mg "sorted" = none
  n_sum : mg "sum" = none
  n_tuple : mg "tuple" = none
/-! ### the law's own draws: a list of cells, a place, a count -/
section
variable {P : Program} {w : World} {K : PySem.W.Frag} {mg : Str → Option Value} {base : Heap}
/-- the state's objects as they stand; G is what else is known, the state is none of it -/
structure DS (G H : Hp) (s b : Addr) (cs : List Int) (i n : Nat) : Prop where
  same : Same G H
  fs : G s = none
  fb : G b = none
  hs : H s = some (.lst [.ref b, .int (i : Int), .int (n : Int)])
  hb : H b = some (.lst (cs.map V.int))
  len : cs.length ≤ 63
theorem DS.sb {G H : Hp} {s b : Addr} {cs : List Int} {i n : Nat} (d : DS G H s b cs i n) : s ≠ b := ne_of d.hs d.hb (by cases cs <;> simp)
/-- at most m draws were made -/
def DSt (G H : Hp) (s : Addr) (m : Nat) : Prop := ∃ (b : Addr) (cs : List Int) (i n : Nat), DS G H s b cs i n ∧ n ≤ m
theorem DSt.same {G H : Hp} {s : Addr} {m : Nat} (d : DSt G H s m) : Same G H := let ⟨_, _, _, _, d, _⟩ := d; d.same
theorem DSt.mono {G H : Hp} {s : Addr} {m m' : Nat} (d : DSt G H s m) (h : m ≤ m') : DSt G H s m' := let ⟨b, cs, i, n, d, hn⟩ := d; ⟨b, cs, i, n, d, Nat.le_trans hn h⟩
/-- what else is known of the heap may be less, the rest may be more -/
theorem DSt.less {G G' H : Hp} {s : Addr} {m : Nat} (d : DSt G H s m) (h : Same G' G) : DSt G' H s m := by
  obtain ⟨b, cs, i, n, d, hn⟩ := d
  have fr : ∀ a, G a = none → G' a = none := fun a e => h.free e
  exact ⟨b, cs, i, n, ⟨h.trans d.same, fr _ d.fs, fr _ d.fb, d.hs, d.hb, d.len⟩, hn⟩
/-- all that stands behind stays; known is what was known -/
theorem DSt.on {G H H' : Hp} {s : Addr} {m : Nat} (d : DSt G H s m) (h : Same H H') : DSt G H' s m := by
  obtain ⟨b, cs, i, n, d, hn⟩ := d
  exact ⟨b, cs, i, n, ⟨d.same.trans h, d.fs, d.fb, h _ _ d.hs, h _ _ d.hb, d.len⟩, hn⟩
theorem DSt.free {G H : Hp} {s : Addr} {m : Nat} {p : Addr} (d : DSt G H s m) (hp : H p = none) : G p = none := d.same.free hp
/-- a new thing is known from now on -/
theorem DSt.learn {G H H' : Hp} {s : Addr} {m : Nat} {p : Addr} {o : HO} (d : DSt G H s m) (sm : Same H H') (hp : H p = none) (hp' : H' p = some o) : DSt (upd G p o) H' s m := by
  obtain ⟨b, cs, i, n, d, hn⟩ := d
  have n1 : s ≠ p := ne_of_none d.hs hp
  have n2 : b ≠ p := ne_of_none d.hb hp
  refine ⟨b, cs, i, n, ⟨fun a u e => ?_, ?_, ?_, sm _ _ d.hs, sm _ _ d.hb, d.len⟩, hn⟩
  · by_cases ha : a = p
    · subst ha; rw [upd_same] at e; rw [hp']; exact e
    · rw [upd_ne ha] at e; exact sm _ _ (d.same a u e)
  · rw [upd_ne n1]; exact d.fs
  · rw [upd_ne n2]; exact d.fb
/-- all but some known things stays: what stands now, but for the state, is known from then on -/
def lessOf (H : Hp) (s b : Addr) : Hp := fun c => if c = s ∨ c = b then none else H c
theorem DSt.moved {G H H' : Hp} {s : Addr} {m : Nat} (d : DSt G H s m) (ch : Addr → Prop) (hc : ∀ c, ch c → G c ≠ none) (h : ∀ c o, ¬ ch c → H c = some o → H' c = some o) :
    ∃ G', DSt G' H' s m ∧ (∀ c o, H' c = some o → (∀ xs, o ≠ .lst xs) → G' c = some o) ∧ (∀ c o, H' c = some o → G c ≠ none → G' c = some o) ∧ (∀ c o, H' c = some o → H c = none → G' c = some o) := by
  obtain ⟨b, cs, i, n, d, hn⟩ := d
  have ns : ¬ ch s := fun z => hc s z d.fs
  have nb : ¬ ch b := fun z => hc b z d.fb
  have es := h s _ ns d.hs
  have eb := h b _ nb d.hb
  refine ⟨lessOf H' s b, ⟨b, cs, i, n, ⟨fun c o e => ?_, by unfold lessOf; rw [if_pos (.inl rfl)], by unfold lessOf; rw [if_pos (.inr rfl)], es, eb, d.len⟩, hn⟩, fun c o e hx => ?_, fun c o e hx => ?_, fun c o e hx => ?_⟩
  · unfold lessOf at e
    by_cases hq : c = s ∨ c = b
    · rw [if_pos hq] at e; cases e
    · rw [if_neg hq] at e; exact e
  · unfold lessOf
    rw [if_neg]
    · exact e
    · rintro (q | q)
      · rw [q, es] at e; exact hx _ (Option.some.inj e).symm
      · rw [q, eb] at e; exact hx _ (Option.some.inj e).symm
  · unfold lessOf
    rw [if_neg]
    · exact e
    · rintro (q | q)
      · exact hx (q ▸ d.fs)
      · exact hx (q ▸ d.fb)
  · unfold lessOf
    rw [if_neg]
    · exact e
    · rintro (q | q)
      · rw [q, d.hs] at hx; cases hx
      · rw [q, d.hb] at hx; cases hx
def spStart (K : PySem.W.Frag) : Sp := fun vs H Q _ => ∃ (a : Addr) (ns : List Int), vs = [.ref a] ∧ SqL K H a (ns.map V.int) ∧ ns.length ≤ 63 ∧ ∀ (s : Addr) (H' : Hp), DSt H H' s 0 → Q (.ref s) H'
def spTake : Sp := fun vs H Q _ => ∃ (G : Hp) (s : Addr) (m : Nat) (sz : Int), vs = [.ref s, .int sz] ∧ DSt G H s m ∧ m < 1000000 ∧ 0 < sz ∧ sz < 2 ^ 200 ∧
  ∀ (r : Int) (H' : Hp), 0 ≤ r → r < sz → DSt G H' s (m + 1) → Q (.int r) H'
theorem take_more {α : Type} : ∀ {l : List α} {i : Nat} {x : α}, l[i]? = some x → l.take (i + 1) = l.take i ++ [x]
  | [], i, x, h => by simp at h
  | a :: l, 0, x, h => by
    have e : a = x := Option.some.inj h
    subst e
    rfl
  | a :: l, i + 1, x, h => by
    have ih := take_more (l := l) (i := i) (x := x) h
    show a :: l.take (i + 1) = a :: l.take i ++ [x]
    rw [ih]
    rfl
theorem ok_start (T : Txt K mg) : FnOk P w K mg base CX0 1 T.f_start T.d_start ["_law_script"] (spStart K) := by
  refine T.F_start.ok sc_start (fun vs H Q E h => ?_) (fun cdv A outer s H vs Q E hr h => ?_)
  · obtain ⟨a, ns, rfl, _⟩ := h
    rfl
  · obtain ⟨a, ns, rfl, hS, hlen, k⟩ := h
    refine ⟨_, (pss_one (ps_ret (pe_lst (pa_cons (pe_lc (own := [("_law_cell", 1)]) (g := gName 1) (tt := tYes) rfl sc_start.nd (pi_list (pv 0)) (blkOk_by (N := ["_law_script", "_law_cell"]) (sc := defScope s_start) (by decide +kernel)) (fun _ _ _ _ _ => pg_name (i := 1) sc_start.nd rfl (Or.inl rfl)) (fun _ _ _ _ _ => pts_nil) (fun _ _ _ _ _ => (pe_callTy call_int1 (by rfl) T.n_int (by decide +kernel) (pa_cons (pv 1) pa_nil)))) (pa_cons pe_int (pa_cons pe_int pa_nil)))))), ?_⟩
    refine ⟨_, rfl, a, rfl, ⟨_, hS⟩, fun D hD => ?_⟩
    refine lc_list (K := K) (a := a) (xs := ns.map V.int) (fun i H1 => H1 D = some (.lst ((ns.take i).map V.int)) ∧ Same H H1) ⟨upd_same, same_upd hD⟩ (fun i H1 _ ⟨_, sm⟩ => sm.seq hS) ?_ ?_
    · intro i x H1 hi ⟨eD, sm⟩
      obtain ⟨z, ez, rfl⟩ : ∃ z, ns[i]? = some z ∧ x = V.int z := by
        rw [List.getElem?_map] at hi
        cases e : ns[i]? with
        | none => rw [e] at hi; cases hi
        | some z => rw [e] at hi; exact ⟨z, rfl, (Option.some.inj hi).symm⟩
      have hi63 := (List.getElem?_eq_some_iff.mp ez).1
      refine ⟨rfl, _, rfl, .inl ⟨z, rfl, _, eD, small1000 (by rw [List.length_map, List.length_take]; omega), ?_, same_mut sm hD⟩⟩
      rw [upd_same, take_more ez, List.map_append]
      rfl
    · intro H1 ⟨eD, sm⟩
      have et : ns.take (ns.map V.int).length = ns := by rw [List.length_map]; exact List.take_length
      rw [et] at eD
      refine ⟨by show 3 ≤ sizeLine; decide, fun st hst => ?_⟩
      have nDst : D ≠ st := ne_of_none eD hst
      refine k st _ ⟨D, ns, 0, 0, ⟨sm.trans (same_upd hst), sm.free hst, hD, upd_same, by rw [upd_ne nDst]; exact eD, hlen⟩, Nat.le_refl _⟩
theorem big1 : (0 : Int) < 2147483647 := by decide
theorem big2 : (0 : Int) < 2147483629 := by decide
theorem big3 : (0 : Int) < 16 := by decide
theorem pw2 (c n : Int) (hc : 0 ≤ c) (hc2 : c < 2147483647) (hn : 0 ≤ n) (hn2 : n ≤ 1000001) : (c * 16807 + n * 40692 + 7).natAbs < 2 ^ 64 := by omega
theorem ok_take (T : Txt K mg) : FnOk P w K mg base CX0 1 T.f_take T.d_take ["_law_state", "_law_limit"] spTake := by
  refine T.F_take.ok sc_take (fun vs H Q E h => ?_) (fun cdv A outer s H vs Q E hr h => ?_)
  · obtain ⟨G, a, m, sz, rfl, _⟩ := h
    rfl
  · obtain ⟨G, a, m, sz, rfl, ⟨b, cs, i, n, d, hn⟩, hm, hs0, hs2, k⟩ := h
    refine ⟨_, (pss_cons (ps_set (i := 2) sc_take.nd rfl (Or.inl rfl) (pe_ix ix_list (pv 0) pe_int (fun _ _ => rfl)))
    (pss_cons (ps_asg (pe_op op_add (pe_ix ix_list (pv 0) pe_int (fun _ _ => rfl)) pe_int) (pg_sub (pv 0) pe_int set_list))
    (pss_cons (ps_set (i := 3) sc_take.nd rfl (Or.inl rfl) (pe_op op_mod (pe_callTy call_int1 (by rfl) T.n_int (by decide +kernel) (pa_cons (pe_ix ix_list (pv 0) pe_int (fun _ _ => rfl)) pa_nil)) (pe_callB (call_max2 rfl) (by rfl) T.n_max (by decide +kernel) (pa_cons pe_int (pa_cons (pe_callB call_len_seq (by rfl) T.n_len (by decide +kernel) (pa_cons (pv 2) pa_nil)) pa_nil)))))
    (pss_cons (ps_set (i := 4) sc_take.nd rfl (Or.inl rfl) pe_int)
    (C8.pss_cut (ps_if (pt_truth (pv 2) (by intro _; rfl))
      (pss_one (ps_set (i := 4) sc_take.nd rfl (Or.inl rfl) (pe_ix ix_list (pv 2) (pv 3) (fun _ _ => rfl))))
      pss_nil)
    (pss_cons (ps_if (pt_cmpR op_ge (pe_callB call_abs (by rfl) T.n_abs (by decide +kernel) (pa_cons (pv 4) pa_nil)) (pe_op op_pow pe_int pe_int) (nomark _))
      (pss_cons (ps_asg (pe_op op_fdivW (pe_callB call_abs (by rfl) T.n_abs (by decide +kernel) (pa_cons (pv 4) pa_nil)) (pv 1)) (pg_sub (pv 2) (pv 3) set_list))
    (pss_one (ps_ret (pe_op op_mod (pe_callB call_abs (by rfl) T.n_abs (by decide +kernel) (pa_cons (pv 4) pa_nil)) (pv 1)))))
      pss_nil)
    (pss_cons (ps_asg (pe_op op_add (pe_ix ix_list (pv 0) pe_int (fun _ _ => rfl)) pe_int) (pg_sub (pv 0) pe_int set_list))
    (pss_cons (ps_set (i := 5) sc_take.nd rfl (Or.inl rfl) (pe_op op_mod (pe_op op_pow (pe_callTy call_int1 (by rfl) T.n_int (by decide +kernel) (pa_cons (pe_op op_add (pe_op op_add (pe_op op_mul (pe_op op_mod (pe_callTy call_int1 (by rfl) T.n_int (by decide +kernel) (pa_cons (pv 4) pa_nil)) pe_int) pe_int) (pe_op op_mul (pe_ix ix_list (pv 0) pe_int (fun _ _ => rfl)) pe_int)) pe_int) pa_nil)) pe_int) pe_int))
    (pss_cons (ps_set (i := 5) sc_take.nd rfl (Or.inl rfl) (pe_op op_mod (pe_op op_pow (pe_callTy call_int1 (by rfl) T.n_int (by decide +kernel) (pa_cons (pe_op op_add (pe_op op_add (pe_op op_mul (pv 5) pe_int) (pe_op op_mul (pe_ix ix_list (pv 0) pe_int (fun _ _ => rfl)) pe_int)) pe_int) pa_nil)) pe_int) pe_int))
    (pss_one (ps_ret (pe_op op_mod (pe_op op_fdivW (pv 5) pe_int) (pv 1))))))))))))), ?_⟩
    refine ⟨_, rfl, a, _, 0, _, rfl, rfl, SqL.of d.hs, rfl, ?_⟩
    refine ⟨_, rfl, a, _, 2, _, rfl, rfl, SqL.of d.hs, rfl, _, _, rfl, rfl, ?_⟩
    refine ⟨_, rfl, a, _, 2, 2, rfl, rfl, d.hs, rfl, ?_⟩
    have d1 : DS G (upd H a (.lst [V.ref b, V.int (i : Int), V.int ((n + 1 : Nat) : Int)])) a b cs i (n + 1) :=
      ⟨same_mut d.same d.fs, d.fs, d.fb, upd_same, by rw [upd_ne d.sb.symm]; exact d.hb, d.len⟩
    refine ⟨_, rfl, a, _, 1, _, rfl, rfl, SqL.of d1.hs, rfl, .inl ⟨_, rfl, ?_⟩⟩
    refine ⟨_, rfl, b, _, rfl, .inl (SqL.of d1.hb), _, _, rfl, _, _, rfl, rfl, ?_, ?_⟩
    · split <;> omega
    have lm : (cs.map V.int).length = cs.length := List.length_map _
    obtain ⟨j, ej, hj⟩ : ∃ j : Nat, (i : Int) % (if (cs.length : Int) > 1 then (cs.length : Int) else 1) = (j : Int) ∧ (cs ≠ [] → j < cs.length) := by
      generalize hz : (if (cs.length : Int) > 1 then (cs.length : Int) else 1) = z
      have p : 0 < z := by rw [← hz]; split <;> omega
      have q : cs ≠ [] → z = (cs.length : Int) := fun hne => by
        have hp : 0 < cs.length := List.length_pos_iff.mpr hne
        rw [← hz]; split <;> omega
      have h0 := Int.emod_nonneg (i : Int) (show z ≠ 0 by omega)
      have h1 := Int.emod_lt_of_pos (i : Int) p
      refine ⟨((i : Int) % z).toNat, by omega, fun hne => ?_⟩
      have := q hne
      omega
    rw [← lm] at ej
    refine ⟨fun σ H' => ∃ c jv : Int, σ = [some (.ref a), some (.int sz), some (.ref b), some (.int jv), some (.int c), none] ∧ jv = (j : Int) ∧ DS G H' a b cs i (n + 1) ∧ (cs = [] ∧ c = 0 ∨ cs[j]? = some c), ?_, ?_⟩
    · refine ⟨_, rfl, !(cs.map V.int).isEmpty, .inl ⟨_, SqL.of d1.hb, rfl⟩, ?_⟩
      by_cases he : cs = []
      · rw [show (!(cs.map V.int).isEmpty) = false by rw [he]; rfl]
        exact iteF ⟨0, _, rfl, ej, d1, .inl ⟨he, rfl⟩⟩
      · rw [show (!(cs.map V.int).isEmpty) = true by cases cs with | nil => exact absurd rfl he | cons _ _ => rfl]
        have hjl := hj he
        refine iteT ⟨_, rfl, _, rfl, b, _, _, _, rfl, rfl, SqL.of d1.hb, at_of ej (by rw [List.getElem?_map, List.getElem?_eq_getElem hjl]; rfl), ?_⟩
        exact ⟨cs[j], _, rfl, ej, d1, .inr (List.getElem?_eq_getElem hjl)⟩
    rintro σ H' ⟨c, jv, rfl, ejv, d2, hc⟩
    refine ⟨_, rfl, c, rfl, 10, 18, rfl, rfl, ⟨by decide, by decide, by decide⟩, _, _, rfl, rfl, _, rfl, ite2 (fun hbig => ?_) fun _ => ?_⟩
    · have hbig' := of_decide_eq_true hbig
      have hcj : cs[j]? = some c := by
        rcases hc with ⟨_, e⟩ | e
        · exfalso
          rw [e] at hbig'
          revert hbig'
          decide
        · exact e
      have hjl := (List.getElem?_eq_some_iff.mp hcj).1
      refine ⟨_, rfl, c, rfl, _, rfl, _, sz, rfl, rfl, wide_div (b := 200) hs0 (by omega) (by decide) (by decide), ?_⟩
      refine ⟨_, rfl, _, rfl, b, _, jv, j, rfl, rfl, d2.hb, by rw [ejv, lm]; exact ix_nat hjl, ?_⟩
      generalize hq : (if c < 0 then -c else c) = q
      have q0 : 0 ≤ q := by rw [← hq]; split <;> omega
      refine ⟨_, rfl, c, rfl, _, rfl, q, sz, by rw [← hq], rfl, hs0, ?_⟩
      refine k _ _ (Int.emod_nonneg _ (by omega)) (Int.emod_lt_of_pos _ hs0) ⟨b, cs.set j (q / sz), i, n + 1, ?_, Nat.succ_le_succ hn⟩
      refine ⟨same_mut d2.same d2.fb, d2.fs, d2.fb, by rw [upd_ne d2.sb]; exact d2.hs, ?_, by rw [List.length_set]; exact d2.len⟩
      rw [upd_same, ← hq, List.map_set]
    refine ⟨_, rfl, a, _, 1, _, rfl, rfl, SqL.of d2.hs, rfl, _, _, rfl, rfl, ?_⟩
    refine ⟨_, rfl, a, _, 1, 1, rfl, rfl, d2.hs, rfl, ?_⟩
    have d3 : DS G (upd H' a (.lst [V.ref b, V.int ((i + 1 : Nat) : Int), V.int ((n + 1 : Nat) : Int)])) a b cs (i + 1) (n + 1) :=
      ⟨same_mut d2.same d2.fs, d2.fs, d2.fb, upd_same, by rw [upd_ne d2.sb.symm]; exact d2.hb, d2.len⟩
    have c0 : 0 ≤ c % 2147483647 := Int.emod_nonneg _ (by decide)
    have c1 : c % 2147483647 < 2147483647 := Int.emod_lt_of_pos _ (by decide)
    refine ⟨_, rfl, .inl ⟨_, rfl, _, _, rfl, rfl, big1, ?_⟩⟩
    refine ⟨_, _, rfl, rfl, .inr ⟨by decide, by decide⟩, ?_⟩
    refine ⟨_, rfl, a, _, 2, _, rfl, rfl, SqL.of d3.hs, rfl, _, _, rfl, rfl, .inr ⟨by decide, by decide⟩, _, _, rfl, rfl, _, _, rfl, rfl, .inl ⟨_, rfl, _, _, rfl, rfl, ⟨by decide, by decide, ?_⟩, ?_⟩⟩
    · omega
    have e0 : ∀ z : Int, 0 ≤ z % 2147483647 := fun z => Int.emod_nonneg _ (by decide)
    have e1 : ∀ z : Int, z % 2147483647 < 2147483647 := fun z => Int.emod_lt_of_pos _ (by decide)
    refine ⟨_, _, rfl, rfl, big1, ?_⟩
    refine ⟨_, rfl, _, _, rfl, rfl, .inr ⟨by decide, by decide⟩, _, rfl, a, _, 2, _, rfl, rfl, SqL.of d3.hs, rfl, _, _, rfl, rfl, .inr ⟨by decide, by decide⟩, _, _, rfl, rfl, _, _, rfl, rfl, .inl ⟨_, rfl, _, _, rfl, rfl, ⟨by decide, by decide, pw2 _ _ (e0 _) (e1 _) (by omega) (by omega)⟩, _, _, rfl, rfl, big2, ?_⟩⟩
    refine ⟨_, rfl, _, _, rfl, rfl, wide_div (b := 200) big3 (by decide) (by decide) (by decide), _, rfl, _, sz, rfl, rfl, hs0, ?_⟩
    exact k _ _ (Int.emod_nonneg _ (by omega)) (Int.emod_lt_of_pos _ hs0) ⟨b, cs, i + 1, n + 1, d3, Nat.succ_le_succ hn⟩
end

/-! ### what is known beside the state of the cells -/
theorem DSt.new {G H : Hp} {s : Addr} {m : Nat} {p : Addr} {o : HO} (d : DSt G H s m) (hp : H p = none) : DSt (upd G p o) (upd H p o) s m :=
  d.learn (same_upd hp) hp upd_same
/-- a known object changes -/
theorem DSt.put {G H : Hp} {s : Addr} {m : Nat} {p : Addr} {o u : HO} (d : DSt G H s m) (hp : G p = some u) : DSt (upd G p o) (upd H p o) s m := by
  obtain ⟨b, cs, i, n, d, hn⟩ := d
  have n1 : s ≠ p := fun e => by rw [← e, d.fs] at hp; cases hp
  have n2 : b ≠ p := fun e => by rw [← e, d.fb] at hp; cases hp
  refine ⟨b, cs, i, n, ⟨fun a v e => ?_, ?_, ?_, ?_, ?_, d.len⟩, hn⟩
  · by_cases ha : a = p
    · subst ha; rw [upd_same] at e ⊢; exact e
    · rw [upd_ne ha] at e ⊢; exact d.same a v e
  · rw [upd_ne n1]; exact d.fs
  · rw [upd_ne n2]; exact d.fb
  · rw [upd_ne n1]; exact d.hs
  · rw [upd_ne n2]; exact d.hb
/-- all that stands but the state is known from now on -/
theorem DSt.all {G H H' : Hp} {st : Addr} {m : Nat} (d : DSt G H st m) (sm : Same H H') : ∃ G', Same G G' ∧ DSt G' H' st m ∧ (∀ p o, H p = none → H' p = some o → G' p = some o) ∧ ∀ p o, (∀ xs, o ≠ .lst xs) → H' p = some o → G' p = some o := by
  obtain ⟨b, cs, i, n, d, hn⟩ := d
  refine ⟨fun a => if a = st ∨ a = b then none else H' a, fun a o e => ?_, ⟨b, cs, i, n, ⟨fun a o e => ?_, by rw [if_pos (.inl rfl)], by rw [if_pos (.inr rfl)], sm _ _ d.hs, sm _ _ d.hb, d.len⟩, hn⟩, fun p o h e => ?_, fun p o h e => ?_⟩
  · show (if a = st ∨ a = b then none else H' a) = some o
    rw [if_neg]
    · exact sm _ _ (d.same _ _ e)
    · rintro (q | q)
      · rw [q, d.fs] at e; cases e
      · rw [q, d.fb] at e; cases e
  · have e : (if a = st ∨ a = b then none else H' a) = some o := e
    split at e
    · cases e
    · exact e
  · show (if p = st ∨ p = b then none else H' p) = some o
    rw [if_neg]
    · exact e
    · rintro (q | q)
      · rw [q, d.hs] at h; cases h
      · rw [q, d.hb] at h; cases h
  · show (if p = st ∨ p = b then none else H' p) = some o
    rw [if_neg]
    · exact e
    · rintro (q | q)
      · rw [q, sm _ _ d.hs] at e; exact h _ (Option.some.inj e).symm
      · rw [q, sm _ _ d.hb] at e; exact h _ (Option.some.inj e).symm

/-! ### ratios -/
section
variable {P : Program} {w : World} {K : PySem.W.Frag} {mg : Str → Option Value} {base : Heap}
/-- a ratio's attributes -/
def rf (t b : Int) : List (Str × V) := [("_top", .int t), ("_bottom", .int b)]
theorem rf_top (t b : Int) : (rf t b).lookup ("_top" : Str) = some (.int t) := by simp [rf, List.lookup]
theorem nTB : (("_bottom" : Str) == ("_top" : Str)) = false := by decide +kernel
theorem nBT : (("_top" : Str) == ("_bottom" : Str)) = false := by decide +kernel
theorem rf_bottom (t b : Int) : (rf t b).lookup ("_bottom" : Str) = some (.int b) := by simp [rf, List.lookup, nTB]
def RatAt (C : Addr) (H : Hp) (p : Addr) (t b : Int) : Prop := ∃ dx, H p = some (.ins C dx (rf t b))
/-- the divisor -/
def dvs (t b : Int) : Int := if b < 0 then -((Nat.gcd t.natAbs b.natAbs : Nat) : Int) else ((Nat.gcd t.natAbs b.natAbs : Nat) : Int)
def lowT (t b : Int) : Int := t.fdiv (dvs t b)
def lowB (t b : Int) : Int := b.fdiv (dvs t b)
def BIG (z : Int) : Prop := z.natAbs < 2 ^ 8000
theorem dvs_ne {t b : Int} (h : b ≠ 0) : dvs t b ≠ 0 := by
  have hg : 0 < Nat.gcd t.natAbs b.natAbs := Nat.gcd_pos_of_pos_right _ (by omega)
  unfold dvs
  split <;> omega
theorem dvs_le {t b : Int} (h : b ≠ 0) : (dvs t b).natAbs ≤ b.natAbs := by
  have hg : Nat.gcd t.natAbs b.natAbs ≤ b.natAbs := Nat.le_of_dvd (by omega) (Nat.gcd_dvd_right _ _)
  unfold dvs
  split <;> omega
/-- Ratio(t, b), b not 0 -/
def spInit (C : Addr) : Sp := fun vs H Q _ => ∃ (p dx : Addr) (t b : Int), vs = [.ref p, .int t, .int b] ∧ H p = some (.ins C dx []) ∧ b ≠ 0 ∧ BIG b ∧ ∀ H', RatAt C H' p (lowT t b) (lowB t b) → (∀ a o, H a = some o → a ≠ p → H' a = some o) → Q .non H'
theorem ok_init (T : Txt K mg) : FnOk P w K mg base CX0 1 T.f_Ratio_init T.d_Ratio_init ["self", "top", "bottom"] (spInit T.f_Ratio) := by
  refine T.F_Ratio_init.ok sc_Ratio_init (fun vs H Q E h => ?_) (fun cdv A outer s H vs Q E hr h => ?_)
  · obtain ⟨p, dx, t, b, rfl, _⟩ := h
    rfl
  · obtain ⟨p, dx, t, b, rfl, hp, hb, hB, k⟩ := h
    refine ⟨_, PSs.nox (pss_cons (ps_if (pt_cmpR op_eq (pv 2) pe_int (nomark _))
      (pss_one ps_never)
      pss_nil)
    (pss_cons (ps_set (i := 3) sc_Ratio_init.nd rfl (Or.inl rfl) (pe_callBfun cr_gcd rfl T.g_gcd (pa_cons (pv 1) (pa_cons (pv 2) pa_nil))))
    (C8.pss_cut (ps_if (pt_cmpR op_lt (pv 2) pe_int (nomark _))
      (pss_one (ps_set (i := 3) sc_Ratio_init.nd rfl (Or.inl rfl) (pe_un un_neg (pv 3))))
      pss_nil)
    (pss_cons (ps_fld (pv 0) (pe_op op_fdivZ (pv 1) (pv 3)) rfl)
    (pss_one (ps_fld (pv 0) (pe_op op_fdivZ (pv 2) (pv 3)) rfl)))))), ?_⟩
    refine ⟨_, rfl, rfl, _, rfl, ite2 (fun h0 => ?_) fun _ => ?_⟩
    · have e : V.int b = V.int 0 := of_decide_eq_true h0
      injection e with e
      exact absurd e hb
    refine ⟨_, rfl, _, rfl, t, b, rfl, ?_⟩
    refine ⟨fun σ H' => σ = [some (.ref p), some (.int t), some (.int b), some (.int (dvs t b))] ∧ H' = H, ?_, ?_⟩
    · refine ⟨_, rfl, b, 0, rfl, rfl, _, rfl, ite2 (fun h0 => ?_) fun h0 => ?_⟩
      · have h0' : b < 0 := of_decide_eq_true h0
        refine ⟨_, rfl, _, rfl, ?_, rfl⟩
        unfold dvs
        rw [if_pos h0']
        rfl
      · have h0' : ¬ b < 0 := fun q => h0 (decide_eq_true q)
        refine ⟨?_, rfl⟩
        unfold dvs
        rw [if_neg h0']
        rfl
    · rintro σ H' ⟨rfl, rfl⟩
      have hz : CDivZ t (dvs t b) := cdivZ (dvs_ne hb) (Nat.lt_of_le_of_lt (dvs_le hb) hB)
      have hz2 : CDivZ b (dvs t b) := cdivZ (dvs_ne hb) (Nat.lt_of_le_of_lt (dvs_le hb) hB)
      refine ⟨_, rfl, _, rfl, t, _, rfl, rfl, hz, _, rfl, p, T.f_Ratio, dx, [], rfl, hp, T.cl_Ratio, T.na_Ratio_top, (by show 0 < 1000; decide), ?_⟩
      refine ⟨_, rfl, _, rfl, b, _, rfl, rfl, hz2, _, rfl, p, T.f_Ratio, dx, _, rfl, upd_same, T.cl_Ratio, T.na_Ratio_bottom, (by show 1 < 1000; decide), ?_⟩
      refine k _ ⟨dx, Eq.trans upd_same ?_⟩ fun a o e ha => by rw [upd_ne ha, upd_ne ha]; exact e
      show some (HO.ins T.f_Ratio dx (if ("_top" : Str) = "_bottom" then _ else _)) = _
      rw [if_neg (by decide +kernel)]
      rfl
/-- the properties -/
def spTop (C : Addr) : Sp := fun vs H Q _ => ∃ (p : Addr) (t b : Int), vs = [.ref p] ∧ RatAt C H p t b ∧ Q (.int t) H
def spBottom (C : Addr) : Sp := fun vs H Q _ => ∃ (p : Addr) (t b : Int), vs = [.ref p] ∧ RatAt C H p t b ∧ Q (.int b) H
def sgnI (t : Int) : Int := if t < 0 then -1 else if 0 < t then 1 else 0
def spSign (C : Addr) : Sp := fun vs H Q _ => ∃ (p : Addr) (t b : Int), vs = [.ref p] ∧ RatAt C H p t b ∧ Q (.int (sgnI t)) H
theorem ok_top (T : Txt K mg) : FnOk P w K mg base CX0 1 T.f_Ratio_top T.d_Ratio_top ["self"] (spTop T.f_Ratio) := by
  refine T.F_Ratio_top.ok sc_Ratio_top (fun vs H Q E h => ?_) (fun cdv A outer s H vs Q E hr h => ?_)
  · obtain ⟨p, t, b, rfl, _⟩ := h
    rfl
  · obtain ⟨p, t, b, rfl, ⟨dx, hp⟩, k⟩ := h
    refine ⟨_, (pss_one (ps_ret (pe_fld (pv 0) rfl))), ?_⟩
    exact ⟨_, rfl, p, T.f_Ratio, dx, _, _, rfl, hp, T.cl_Ratio, T.na_Ratio_top, rf_top _ _, k⟩
theorem ok_bottom (T : Txt K mg) : FnOk P w K mg base CX0 1 T.f_Ratio_bottom T.d_Ratio_bottom ["self"] (spBottom T.f_Ratio) := by
  refine T.F_Ratio_bottom.ok sc_Ratio_bottom (fun vs H Q E h => ?_) (fun cdv A outer s H vs Q E hr h => ?_)
  · obtain ⟨p, t, b, rfl, _⟩ := h
    rfl
  · obtain ⟨p, t, b, rfl, ⟨dx, hp⟩, k⟩ := h
    refine ⟨_, (pss_one (ps_ret (pe_fld (pv 0) rfl))), ?_⟩
    exact ⟨_, rfl, p, T.f_Ratio, dx, _, _, rfl, hp, T.cl_Ratio, T.na_Ratio_bottom, rf_bottom _ _, k⟩
end

/-! ### the functions on ratios -/
section
variable {P : Program} {w : World} {K : PySem.W.Frag} {mg : Str → Option Value} {base : Heap}
theorem made_rat {C : Addr} {H : Hp} {t b : Int} {Q : VK} {E : XK} (hb : b ≠ 0) (hB : BIG b) (k : ∀ x H', H x = none → Same H H' → RatAt C H' x (lowT t b) (lowB t b) → Q (.ref x) H') :
    ∀ x dx, H x = none → H dx = none → dx ≠ x → spInit C [.ref x, .int t, .int b] (upd (upd H dx (.own x)) x (.ins C dx [])) (fun v H2 => v = .non ∧ Q (.ref x) H2) E :=
  fun x dx nx nd _ => ⟨x, dx, t, b, rfl, upd_same, hb, hB, fun H' r st => ⟨rfl, k x H' nx (Same.made nx nd st) r⟩⟩
theorem low_one (t : Int) : lowT t 1 = t ∧ lowB t 1 = 1 := by
  have e : dvs t 1 = 1 := by
    unfold dvs
    rw [if_neg (by decide)]
    simp
  unfold lowT lowB
  rw [e]
  exact ⟨by rw [Int.fdiv_one], by decide⟩
theorem big_one : BIG 1 := by show (1 : Nat) < 2 ^ 8000; decide +kernel
theorem tyR {C : Addr} {H : Hp} {p : Addr} {t b : Int} (ic : C8.InsC K C) (r : RatAt C H p t b) : TyX K H (.ref p) (.ref C) := by
  obtain ⟨dx, hp⟩ := r
  exact .base (.ins hp ic.cl ic.ha ic.hn ic.htk ic.hm)
theorem abs_of (n : Int) : (if n < 0 then -n else n) = ((n.natAbs : Nat) : Int) := by split <;> omega
end

/-! ### lowest terms -/
theorem dvs_abs (t b : Int) : (dvs t b).natAbs = Nat.gcd t.natAbs b.natAbs := by
  unfold dvs
  split <;> omega
theorem dvs_dvd_t (t b : Int) : dvs t b ∣ t := Int.natAbs_dvd_natAbs.mp (by rw [dvs_abs]; exact Nat.gcd_dvd_left _ _)
theorem dvs_dvd_b (t b : Int) : dvs t b ∣ b := Int.natAbs_dvd_natAbs.mp (by rw [dvs_abs]; exact Nat.gcd_dvd_right _ _)
theorem fdiv_mul {a d : Int} (h : d ∣ a) : a.fdiv d * d = a := by
  obtain ⟨c, rfl⟩ := h
  by_cases hd : d = 0
  · subst hd; simp
  · rw [Int.mul_comm d c, Int.mul_fdiv_cancel _ hd]
theorem lowT_mul (t b : Int) : lowT t b * dvs t b = t := fdiv_mul (dvs_dvd_t t b)
theorem lowB_mul (t b : Int) : lowB t b * dvs t b = b := fdiv_mul (dvs_dvd_b t b)
theorem lowT_le {t b : Int} (h : b ≠ 0) : (lowT t b).natAbs ≤ t.natAbs := by
  have e := congrArg Int.natAbs (lowT_mul t b)
  rw [Int.natAbs_mul] at e
  have hd : 0 < (dvs t b).natAbs := by have := dvs_ne (t := t) h; omega
  rw [← e]
  exact Nat.le_mul_of_pos_right _ hd
theorem lowB_le {t b : Int} (h : b ≠ 0) : (lowB t b).natAbs ≤ b.natAbs := by
  have e := congrArg Int.natAbs (lowB_mul t b)
  rw [Int.natAbs_mul] at e
  have hd : 0 < (dvs t b).natAbs := by have := dvs_ne (t := t) h; omega
  rw [← e]
  exact Nat.le_mul_of_pos_right _ hd
theorem lowB_pos {t b : Int} (h : b ≠ 0) : 0 < lowB t b := by
  have e := lowB_mul t b
  have hg : 0 < Nat.gcd t.natAbs b.natAbs := Nat.gcd_pos_of_pos_right _ (by omega)
  by_cases hb : b < 0
  · have hd : dvs t b < 0 := by unfold dvs; rw [if_pos hb]; omega
    rcases Int.lt_trichotomy (lowB t b) 0 with q | q | q
    · have : 0 < lowB t b * dvs t b := Int.mul_pos_of_neg_of_neg q hd
      omega
    · rw [q, Int.zero_mul] at e; omega
    · exact q
  · have hd : 0 < dvs t b := by unfold dvs; rw [if_neg hb]; omega
    rcases Int.lt_trichotomy (lowB t b) 0 with q | q | q
    · have : lowB t b * dvs t b < 0 := Int.mul_neg_of_neg_of_pos q hd
      omega
    · rw [q, Int.zero_mul] at e; omega
    · exact q
theorem low_gcd {t b : Int} (h : b ≠ 0) : Nat.gcd (lowT t b).natAbs (lowB t b).natAbs = 1 := by
  have e1 := congrArg Int.natAbs (lowT_mul t b)
  have e2 := congrArg Int.natAbs (lowB_mul t b)
  rw [Int.natAbs_mul, dvs_abs] at e1 e2
  have hg : 0 < Nat.gcd t.natAbs b.natAbs := Nat.gcd_pos_of_pos_right _ (by omega)
  have e3 : Nat.gcd (lowT t b).natAbs (lowB t b).natAbs * Nat.gcd t.natAbs b.natAbs = 1 * Nat.gcd t.natAbs b.natAbs := by
    rw [← Nat.gcd_mul_right, e1, e2, Nat.one_mul]
  exact Nat.eq_of_mul_eq_mul_right hg e3
theorem low_same {t b : Int} (hb : 0 < b) (hg : Nat.gcd t.natAbs b.natAbs = 1) : lowT t b = t ∧ lowB t b = b := by
  have e : dvs t b = 1 := by
    unfold dvs
    rw [if_neg (by omega), hg]
    rfl
  unfold lowT lowB
  rw [e, Int.fdiv_one, Int.fdiv_one]
  exact ⟨rfl, rfl⟩
theorem low_low {t b : Int} (h : b ≠ 0) : lowT (lowT t b) (lowB t b) = lowT t b ∧ lowB (lowT t b) (lowB t b) = lowB t b := low_same (lowB_pos h) (low_gcd h)

/-! ### sums, products, differences -/
section
variable {P : Program} {w : World} {K : PySem.W.Frag} {mg : Str → Option Value} {base : Heap}
def Low (t b : Int) : Prop := 0 < b ∧ Nat.gcd t.natAbs b.natAbs = 1
theorem Low.of {t b : Int} (h : b ≠ 0) : Low (lowT t b) (lowB t b) := ⟨lowB_pos h, low_gcd h⟩
theorem Low.neg {t b : Int} (h : Low t b) : Low (-t) b := ⟨h.1, by rw [Int.natAbs_neg]; exact h.2⟩
theorem Low.one (t : Int) : Low t 1 := ⟨by decide, by simp⟩
theorem Low.ne {t b : Int} (h : Low t b) : b ≠ 0 := by have := h.1; omega
theorem Low.tt {t b : Int} (h : Low t b) : lowT t b = t := (low_same h.1 h.2).1
theorem Low.bb {t b : Int} (h : Low t b) : lowB t b = b := (low_same h.1 h.2).2
theorem dvs_scale {k t b : Int} (hk : k ≠ 0) (hb : b ≠ 0) : dvs (k * t) (k * b) = k * dvs t b := by
  have eg : Nat.gcd (k * t).natAbs (k * b).natAbs = k.natAbs * Nat.gcd t.natAbs b.natAbs := by rw [Int.natAbs_mul, Int.natAbs_mul, Nat.gcd_mul_left]
  unfold dvs
  rw [eg, Int.natCast_mul]
  generalize ((Nat.gcd t.natAbs b.natAbs : Nat) : Int) = g
  rcases Int.lt_or_gt_of_ne hk with q | q <;> rcases Int.lt_or_gt_of_ne hb with r | r
  · have : 0 < k * b := Int.mul_pos_of_neg_of_neg q r
    rw [if_neg (by omega), if_pos r, show ((k.natAbs : Nat) : Int) = -k by omega, Int.neg_mul, Int.mul_neg]
  · have : k * b < 0 := Int.mul_neg_of_neg_of_pos q r
    rw [if_pos this, if_neg (by omega), show ((k.natAbs : Nat) : Int) = -k by omega, Int.neg_mul, Int.neg_neg]
  · have : k * b < 0 := Int.mul_neg_of_pos_of_neg q r
    rw [if_pos this, if_pos r, show ((k.natAbs : Nat) : Int) = k by omega, Int.mul_neg]
  · have : 0 < k * b := Int.mul_pos q r
    rw [if_neg (by omega), if_neg (by omega), show ((k.natAbs : Nat) : Int) = k by omega]
theorem fdiv_scale {k a d : Int} (hk : k ≠ 0) (hd : d ≠ 0) (h : d ∣ a) : (k * a).fdiv (k * d) = a.fdiv d := by
  obtain ⟨c, rfl⟩ := h
  have e : k * (d * c) = c * (k * d) := by rw [Int.mul_comm c, Int.mul_assoc]
  rw [e, Int.mul_fdiv_cancel _ (Int.mul_ne_zero hk hd), Int.mul_comm d c, Int.mul_fdiv_cancel _ hd]
theorem low_scale {k t b : Int} (hk : k ≠ 0) (hb : b ≠ 0) : lowT (k * t) (k * b) = lowT t b ∧ lowB (k * t) (k * b) = lowB t b := by
  unfold lowT lowB
  rw [dvs_scale hk hb]
  exact ⟨fdiv_scale hk (dvs_ne hb) (dvs_dvd_t t b), fdiv_scale hk (dvs_ne hb) (dvs_dvd_b t b)⟩
/-- divided by x / y, that is, times the lowest terms of y / x -/
theorem low_over {t b x y : Int} (hy : y ≠ 0) (hb : b ≠ 0) : lowT (t * x) (b * y) = lowT (t * lowT x y) (b * lowB x y) ∧ lowB (t * x) (b * y) = lowB (t * lowT x y) (b * lowB x y) := by
  have h := low_scale (k := dvs x y) (t := t * lowT x y) (b := b * lowB x y) (dvs_ne hy) (Int.mul_ne_zero hb (by have := lowB_pos (t := x) hy; omega))
  have e1 : dvs x y * (t * lowT x y) = t * x := by rw [Int.mul_comm, Int.mul_assoc, lowT_mul]
  have e2 : dvs x y * (b * lowB x y) = b * y := by rw [Int.mul_comm, Int.mul_assoc, lowB_mul]
  rw [e1, e2] at h
  exact h
def SM (z : Int) : Prop := z.natAbs < 2 ^ 3900
theorem sm_mul {a b : Int} (ha : SM a) (hb : SM b) : CMulW a b := wide_mul (a := 3900) (b := 3900) ha hb (by decide) (by decide) (by decide)
theorem big_mul {a b : Int} (ha : SM a) (hb : SM b) : BIG (a * b) := by
  show (a * b).natAbs < 2 ^ 8000
  rw [Int.natAbs_mul]
  exact Nat.lt_of_le_of_lt (Nat.mul_le_mul (Nat.le_of_lt ha) (Nat.le_of_lt hb)) (by decide +kernel)
theorem SM.big {a : Int} (h : SM a) : BIG a := Nat.lt_of_lt_of_le h (by decide +kernel)
theorem SM.neg {a : Int} (h : SM a) : SM (-a) := by unfold SM; rw [Int.natAbs_neg]; exact h
theorem sm_one : SM 1 := by show (1 : Nat) < 2 ^ 3900; decide +kernel
/-- a ratio, or an int as one -/
def Num (C : Addr) (H : Hp) (v : V) (t b : Int) : Prop := (v = .int t ∧ b = 1) ∨ ∃ p, v = .ref p ∧ RatAt C H p t b
theorem RatAt.on {C : Addr} {H H' : Hp} {p : Addr} {t b : Int} (r : RatAt C H p t b) (s : Same H H') : RatAt C H' p t b := let ⟨dx, h⟩ := r; ⟨dx, s _ _ h⟩
theorem Num.on {C : Addr} {H H' : Hp} {v : V} {t b : Int} (n : Num C H v t b) (s : Same H H') : Num C H' v t b := n.elim .inl fun ⟨p, e, r⟩ => .inr ⟨p, e, r.on s⟩
def spNum (C : Addr) : Sp := fun vs H Q _ => ∃ (v : V) (t b : Int), vs = [v] ∧ Num C H v t b ∧ ∀ p H', Same H H' → RatAt C H' p t b → Q (.ref p) H'
theorem ok_asN (T : Txt K mg) : FnOk P w K mg base CX0 3 T.f_as_ratio T.d_as_ratio ["value"] (spNum T.f_Ratio) := by
  have G_Ratio_init : FnOk P w K mg base CX0 1 T.f_Ratio_init T.d_Ratio_init ["self", "top", "bottom"] (spInit T.f_Ratio) := ok_init T
  refine T.F_as_ratio.ok sc_as_ratio (fun vs H Q E h => ?_) (fun cdv A outer s H vs Q E hr h => ?_)
  · obtain ⟨v, t, b, rfl, _⟩ := h
    rfl
  · obtain ⟨v, t, b, rfl, n, k⟩ := h
    refine ⟨_, (pss_cons (ps_if (pt_val (pe_callB call_isi (by rfl) T.n_isinstance (by decide +kernel) (pa_cons (pv 0) (pa_cons (pe_glob (v := .ref T.f_Ratio) rfl T.m_Ratio rfl) pa_nil))))
      (pss_one (ps_ret (pv 0)))
      pss_nil)
    (pss_one (ps_ret (pe_make T.mk_Ratio G_Ratio_init (hr.mono (by decide)) rfl T.m_Ratio T.b1_Ratio_init T.v1_Ratio_init pass0 (pa_cons (pv 0) pa_nil))))), ?_⟩
    rcases n with ⟨rfl, rfl⟩ | ⟨p, rfl, r⟩
    · refine ⟨_, rfl, .int t, .ref T.f_Ratio, .type "int", .ref T.f_Ratio, false, rfl, .own _, .base (.int _), T.ki_Ratio_int, false, rfl, iteF ?_⟩
      refine ⟨_, rfl, made_rat (by decide) big_one fun x H' nx sm r => ?_⟩
      rw [(low_one t).1, (low_one t).2] at r
      exact k x H' sm r
    · exact ⟨_, rfl, .ref p, .ref T.f_Ratio, .ref T.f_Ratio, .ref T.f_Ratio, true, rfl, .own _, tyR T.ic_Ratio r, kit_self, true, rfl, iteT ⟨_, rfl, k p H (Same.refl H) r⟩⟩
/-- a new ratio, in lowest terms -/
def Res (C : Addr) (H : Hp) (x y : Int) (Q : VK) : Prop := ∀ q H', H q = none → Same H H' → RatAt C H' q (lowT x y) (lowB x y) → Q (.ref q) H'
def spAdd (C : Addr) : Sp := fun vs H Q _ => ∃ (p : Addr) (y : V) (t b t' b' : Int), vs = [.ref p, y] ∧ RatAt C H p t b ∧ Num C H y t' b' ∧ SM t ∧ SM b ∧ SM t' ∧ SM b' ∧ b ≠ 0 ∧ b' ≠ 0 ∧ Res C H (t * b' + t' * b) (b * b') Q
def spMul (C : Addr) : Sp := fun vs H Q _ => ∃ (p : Addr) (y : V) (t b t' b' : Int), vs = [.ref p, y] ∧ RatAt C H p t b ∧ Num C H y t' b' ∧ SM t ∧ SM b ∧ SM t' ∧ SM b' ∧ b ≠ 0 ∧ b' ≠ 0 ∧ Res C H (t * t') (b * b') Q
def spOver (C : Addr) : Sp := fun vs H Q _ => ∃ (p : Addr) (y : V) (t b t' b' : Int), vs = [.ref p, y] ∧ RatAt C H p t b ∧ Num C H y t' b' ∧ SM t ∧ SM b ∧ SM t' ∧ SM b' ∧ b ≠ 0 ∧ t' ≠ 0 ∧ Res C H (t * b') (b * t') Q
def spBelow (C : Addr) : Sp := fun vs H Q _ => ∃ (p : Addr) (y : V) (t b t' b' : Int), vs = [.ref p, y] ∧ RatAt C H p t b ∧ Num C H y t' b' ∧ SM t ∧ SM b ∧ SM t' ∧ SM b' ∧ ∀ H', Same H H' → Q (.bl (decide (t * b' < t' * b))) H'
def spNeg (C : Addr) : Sp := fun vs H Q _ => ∃ (p : Addr) (t b : Int), vs = [.ref p] ∧ RatAt C H p t b ∧ Low t b ∧ SM b ∧ ∀ q H', H q = none → Same H H' → RatAt C H' q (-t) b → Q (.ref q) H'
def spEqB (C : Addr) : Sp := fun vs H Q _ => ∃ (p q : Addr) (t b t' b' : Int), vs = [.ref p, .ref q] ∧ RatAt C H p t b ∧ RatAt C H q t' b' ∧ Q (.bl (decide (t = t' ∧ b = b'))) H
end

section
variable {P : Program} {w : World} {K : PySem.W.Frag} {mg : Str → Option Value} {base : Heap}
theorem ok_add (T : Txt K mg) : FnOk P w K mg base CX0 4 T.f_Ratio_add T.d_Ratio_add ["self", "other"] (spAdd T.f_Ratio) := by
  have G_Ratio_init : FnOk P w K mg base CX0 1 T.f_Ratio_init T.d_Ratio_init ["self", "top", "bottom"] (spInit T.f_Ratio) := ok_init T
  have G_Ratio_top : FnOk P w K mg base CX0 1 T.f_Ratio_top T.d_Ratio_top ["self"] (spTop T.f_Ratio) := ok_top T
  have G_Ratio_bottom : FnOk P w K mg base CX0 1 T.f_Ratio_bottom T.d_Ratio_bottom ["self"] (spBottom T.f_Ratio) := ok_bottom T
  have G_as_ratio : FnOk P w K mg base CX0 3 T.f_as_ratio T.d_as_ratio ["value"] (spNum T.f_Ratio) := ok_asN T
  refine T.F_Ratio_add.ok sc_Ratio_add (fun vs H Q E h => ?_) (fun cdv A outer s H vs Q E hr h => ?_)
  · obtain ⟨p, y, t, b, t', b', rfl, _⟩ := h
    rfl
  · obtain ⟨p, y, t, b, t', b', rfl, r, n, ht, hb, ht', hb', h0, h0', k⟩ := h
    refine ⟨_, (pss_cons (ps_set (i := 2) sc_Ratio_add.nd rfl (Or.inl rfl) (pe_call G_as_ratio (hr.mono (by decide)) rfl T.m_as_ratio T.F_as_ratio.kp T.b_as_ratio .nil pass0 (pa_cons (pv 1) pa_nil)))
    (pss_cons (ps_set (i := 3) sc_Ratio_add.nd rfl (Or.inl rfl) (pe_op op_add (pe_op op_mulW (pe_fld (pv 0) rfl) (pe_prop (pv 2) T.cl_Ratio T.p_Ratio_bottom G_Ratio_bottom (hr.mono (by decide)) T.b_Ratio_bottom .nil pass0 rfl)) (pe_op op_mulW (pe_prop (pv 2) T.cl_Ratio T.p_Ratio_top G_Ratio_top (hr.mono (by decide)) T.b_Ratio_top .nil pass0 rfl) (pe_fld (pv 0) rfl))))
    (pss_one (ps_ret (pe_make T.mk_Ratio G_Ratio_init (hr.mono (by decide)) rfl T.m_Ratio T.b2_Ratio_init T.v2_Ratio_init pass0 (pa_cons (pv 3) (pa_cons (pe_op op_mulW (pe_fld (pv 0) rfl) (pe_prop (pv 2) T.cl_Ratio T.p_Ratio_bottom G_Ratio_bottom (hr.mono (by decide)) T.b_Ratio_bottom .nil pass0 rfl)) pa_nil))))))), ?_⟩
    refine ⟨_, rfl, y, t', b', rfl, n, fun p' H1 s1 r1 => ?_⟩
    obtain ⟨dx, hp⟩ := r.on s1
    obtain ⟨dx', hp'⟩ := id r1
    refine ⟨_, rfl, p, T.f_Ratio, dx, _, _, rfl, hp, T.cl_Ratio, T.na_Ratio_top, rf_top _ _, _, rfl, p', dx', _, rfl, hp', p', t', b', rfl, r1, _, _, rfl, rfl, sm_mul ht hb', ?_⟩
    refine ⟨_, rfl, p', dx', _, rfl, hp', p', t', b', rfl, r1, _, rfl, p, T.f_Ratio, dx, _, _, rfl, hp, T.cl_Ratio, T.na_Ratio_bottom, rf_bottom _ _, _, _, rfl, rfl, sm_mul ht' hb, _, _, rfl, rfl, ?_⟩
    refine ⟨_, rfl, _, rfl, p, T.f_Ratio, dx, _, _, rfl, hp, T.cl_Ratio, T.na_Ratio_bottom, rf_bottom _ _, _, rfl, p', dx', _, rfl, hp', p', t', b', rfl, r1, _, _, rfl, rfl, sm_mul hb hb', ?_⟩
    exact made_rat (Int.mul_ne_zero h0 h0') (big_mul hb hb') fun q H' nq sq rq => k q H' (s1.free nq) (s1.trans sq) rq
end

section
variable {P : Program} {w : World} {K : PySem.W.Frag} {mg : Str → Option Value} {base : Heap}
theorem ok_neg (T : Txt K mg) : FnOk P w K mg base CX0 3 T.f_Ratio_neg T.d_Ratio_neg ["self"] (spNeg T.f_Ratio) := by
  have G_Ratio_init : FnOk P w K mg base CX0 1 T.f_Ratio_init T.d_Ratio_init ["self", "top", "bottom"] (spInit T.f_Ratio) := ok_init T
  refine T.F_Ratio_neg.ok sc_Ratio_neg (fun vs H Q E h => ?_) (fun cdv A outer s H vs Q E hr h => ?_)
  · obtain ⟨p, t, b, rfl, _⟩ := h
    rfl
  · obtain ⟨p, t, b, rfl, ⟨dx, hp⟩, hl, hb, k⟩ := h
    refine ⟨_, (pss_one (ps_ret (pe_make T.mk_Ratio G_Ratio_init (hr.mono (by decide)) rfl T.m_Ratio T.b2_Ratio_init T.v2_Ratio_init pass0 (pa_cons (pe_un un_neg (pe_fld (pv 0) rfl)) (pa_cons (pe_fld (pv 0) rfl) pa_nil))))), ?_⟩
    refine ⟨_, rfl, p, T.f_Ratio, dx, _, _, rfl, hp, T.cl_Ratio, T.na_Ratio_top, rf_top _ _, t, rfl, _, rfl, p, T.f_Ratio, dx, _, _, rfl, hp, T.cl_Ratio, T.na_Ratio_bottom, rf_bottom _ _, ?_⟩
    refine made_rat hl.ne hb.big fun q H' nq sq rq => ?_
    rw [hl.neg.tt, hl.neg.bb] at rq
    exact k q H' nq sq rq
end

section
variable {P : Program} {w : World} {K : PySem.W.Frag} {mg : Str → Option Value} {base : Heap}
/-- two equal ratios -/
def REq (C : Addr) : Addr → Addr → Hp → Prop := fun a b H => ∃ t c : Int, RatAt C H a t c ∧ RatAt C H b t c
theorem ok_eq (T : Txt K mg) : FnOk P w K mg base CX0 1 T.f_Ratio_eq T.d_Ratio_eq ["self", "other"] (spEq (REq T.f_Ratio)) := by
  refine T.F_Ratio_eq.ok sc_Ratio_eq (fun vs H Q E h => ?_) (fun cdv A outer s H vs Q E hr h => ?_)
  · obtain ⟨a, b, rfl, _⟩ := h
    rfl
  · obtain ⟨a, b, rfl, ⟨t, c, ra, rb⟩, k⟩ := h
    obtain ⟨da, ha⟩ := id ra
    obtain ⟨db, hb⟩ := id rb
    refine ⟨_, (pss_one (ps_ret (pe_and (pe_callB call_isi (by rfl) T.n_isinstance (by decide +kernel) (pa_cons (pv 1) (pa_cons (pe_glob (v := .ref T.f_Ratio) rfl T.m_Ratio rfl) pa_nil))) (pe_and (pe_cmpR op_eq (pe_fld (pv 0) rfl) (pe_fld (pv 1) rfl) (nomark _)) (pe_one (pe_cmpR op_eq (pe_fld (pv 0) rfl) (pe_fld (pv 1) rfl) (nomark _))))))), ?_⟩
    refine ⟨_, rfl, .ref b, .ref T.f_Ratio, .ref T.f_Ratio, .ref T.f_Ratio, true, rfl, .own _, tyR T.ic_Ratio rb, kit_self, true, rfl, iteT ?_⟩
    refine ⟨_, rfl, a, T.f_Ratio, da, _, _, rfl, ha, T.cl_Ratio, T.na_Ratio_top, rf_top _ _, _, rfl, b, T.f_Ratio, db, _, _, rfl, hb, T.cl_Ratio, T.na_Ratio_top, rf_top _ _, rfl, true, by rw [decide_eq_true rfl], iteT ?_⟩
    refine ⟨_, rfl, a, T.f_Ratio, da, _, _, rfl, ha, T.cl_Ratio, T.na_Ratio_bottom, rf_bottom _ _, _, rfl, b, T.f_Ratio, db, _, _, rfl, hb, T.cl_Ratio, T.na_Ratio_bottom, rf_bottom _ _, rfl, ?_⟩
    rw [decide_eq_true rfl]
    exact k _ fun _ _ z => z
end

def spSub (C : Addr) : Sp := fun vs H Q _ => ∃ (p : Addr) (y : V) (t b t' b' : Int), vs = [.ref p, y] ∧ RatAt C H p t b ∧ Num C H y t' b' ∧ SM t ∧ SM b ∧ SM t' ∧ SM b' ∧ b ≠ 0 ∧ Low t' b' ∧ Res C H (t * b' + -t' * b) (b * b') Q

section
variable {P : Program} {w : World} {K : PySem.W.Frag} {mg : Str → Option Value} {base : Heap}
theorem ok_sub (T : Txt K mg) : FnOk P w K mg base CX0 5 T.f_Ratio_sub T.d_Ratio_sub ["self", "other"] (spSub T.f_Ratio) := by
  have G_Ratio_add : FnOk P w K mg base CX0 4 T.f_Ratio_add T.d_Ratio_add ["self", "other"] (spAdd T.f_Ratio) := ok_add T
  have G_Ratio_neg : FnOk P w K mg base CX0 3 T.f_Ratio_neg T.d_Ratio_neg ["self"] (spNeg T.f_Ratio) := ok_neg T
  refine T.F_Ratio_sub.ok sc_Ratio_sub (fun vs H Q E h => ?_) (fun cdv A outer s H vs Q E hr h => ?_)
  · obtain ⟨p, y, t, b, t', b', rfl, _⟩ := h
    rfl
  · obtain ⟨p, y, t, b, t', b', rfl, r, n, ht, hb, ht', hb', h0, hl, k⟩ := h
    obtain ⟨dx, hp⟩ := id r
    refine ⟨_, (pss_one (ps_ret (pe_op (op_or (op_oo (nm := "add") rfl T.op_Ratio_add G_Ratio_add (hr.mono (by decide)) T.b_Ratio_add pass0) (op_oi (nm := "add") rfl T.op_Ratio_add G_Ratio_add (hr.mono (by decide)) T.b_Ratio_add pass0)) (pv 0) (pe_un (un_or un_neg (un_negO T.a_Ratio_neg T.i_Ratio_neg G_Ratio_neg (hr.mono (by decide)) T.b_Ratio_neg pass0)) (pv 1))))), ?_⟩
    rcases n with ⟨rfl, rfl⟩ | ⟨q, rfl, rq⟩
    · exact ⟨_, rfl, _, rfl, .inl ⟨t', rfl, .inr ⟨p, dx, _, -t', rfl, rfl, hp, p, _, t, b, -t', 1, rfl, r, .inl ⟨rfl, rfl⟩, ht, hb, ht'.neg, hb', h0, by decide, k⟩⟩⟩
    · obtain ⟨dq, hq⟩ := id rq
      refine ⟨_, rfl, _, rfl, .inr ⟨q, dq, _, rfl, hq, q, t', b', rfl, rq, hl, hb', fun o H1 no s1 ro => ?_⟩⟩
      obtain ⟨d0, ho⟩ := id ro
      exact .inl ⟨p, dx, _, o, d0, _, rfl, rfl, s1 _ _ hp, ho, p, _, t, b, -t', b', rfl, r.on s1, .inr ⟨o, rfl, ro⟩, ht, hb, ht'.neg, hb', h0, hl.ne, fun q' H' nq sq rq' => k q' H' (s1.free nq) (s1.trans sq) rq'⟩
end

/-! ### ratios by their values -/
section
variable {P : Program} {w : World} {K : PySem.W.Frag} {mg : Str → Option Value} {base : Heap}
def vq (t b : Int) : Rat := (t : Rat) / (b : Rat)
theorem rat_ne {b : Int} (h : b ≠ 0) : (b : Rat) ≠ 0 := fun e => h (by exact_mod_cast e)
theorem rat_pos {b : Int} (h : 0 < b) : (0 : Rat) < (b : Rat) := by exact_mod_cast h
theorem vq_low {t b : Int} (h : b ≠ 0) : vq (lowT t b) (lowB t b) = vq t b := by
  have e1 : ((lowT t b : Int) : Rat) * (dvs t b : Rat) = (t : Rat) := by exact_mod_cast congrArg (fun z : Int => (z : Rat)) (lowT_mul t b)
  have e2 : ((lowB t b : Int) : Rat) * (dvs t b : Rat) = (b : Rat) := by exact_mod_cast congrArg (fun z : Int => (z : Rat)) (lowB_mul t b)
  have h1 := rat_ne h
  have h2 := rat_ne (dvs_ne (t := t) h)
  have h3 : ((lowB t b : Int) : Rat) ≠ 0 := rat_ne (by have := lowB_pos (t := t) h; omega)
  unfold vq
  generalize ((lowT t b : Int) : Rat) = x at *
  generalize ((lowB t b : Int) : Rat) = y at *
  generalize ((dvs t b : Int) : Rat) = d at *
  rw [← e1, ← e2]
  grind
theorem cross {t b t' b' : Int} (hb : b ≠ 0) (hb' : b' ≠ 0) (h : vq t b = vq t' b') : t * b' = t' * b := by
  have h1 := rat_ne hb
  have h2 := rat_ne hb'
  unfold vq at h
  have : (t : Rat) * (b' : Rat) = (t' : Rat) * (b : Rat) := by grind
  exact_mod_cast this
theorem low_unique {t b t' b' : Int} (h : Low t b) (h' : Low t' b') (e : vq t b = vq t' b') : t = t' ∧ b = b' := by
  have c := cross h.ne h'.ne e
  have l1 := low_scale (k := b') (t := t) (b := b) h'.ne h.ne
  have l2 := low_scale (k := b) (t := t') (b := b') h.ne h'.ne
  have e1 : b' * t = b * t' := by rw [Int.mul_comm b' t, c, Int.mul_comm]
  have e2 : b' * b = b * b' := Int.mul_comm _ _
  rw [e1, e2] at l1
  rw [h.tt, h.bb] at l1
  rw [h'.tt, h'.bb] at l2
  exact ⟨l1.1.symm.trans l2.1, l1.2.symm.trans l2.2⟩
theorem vq_add {t b t' b' : Int} (hb : b ≠ 0) (hb' : b' ≠ 0) : vq (t * b' + t' * b) (b * b') = vq t b + vq t' b' := by
  have h1 := rat_ne hb
  have h2 := rat_ne hb'
  unfold vq
  push_cast
  grind
theorem vq_mul {t b t' b' : Int} (hb : b ≠ 0) (hb' : b' ≠ 0) : vq (t * t') (b * b') = vq t b * vq t' b' := by
  have h1 := rat_ne hb
  have h2 := rat_ne hb'
  unfold vq
  push_cast
  grind
theorem vq_neg {t b : Int} : vq (-t) b = - vq t b := by
  unfold vq
  push_cast
  grind
theorem vq_over {t b t' b' : Int} (hb : b ≠ 0) (hb' : b' ≠ 0) (ht' : t' ≠ 0) : vq (t * b') (b * t') = vq t b / vq t' b' := by
  have h1 := rat_ne hb
  have h2 := rat_ne hb'
  have h3 := rat_ne ht'
  unfold vq
  push_cast
  grind
theorem vq_lt {t b t' b' : Int} (hb : 0 < b) (hb' : 0 < b') : t * b' < t' * b ↔ vq t b < vq t' b' := by
  have h1 := rat_pos hb
  have h2 := rat_pos hb'
  have e1 : vq t b * ((b : Rat) * (b' : Rat)) = (t : Rat) * (b' : Rat) := by unfold vq; have := rat_ne (show b ≠ 0 by omega); grind
  have e2 : vq t' b' * ((b : Rat) * (b' : Rat)) = (t' : Rat) * (b : Rat) := by unfold vq; have := rat_ne (show b' ≠ 0 by omega); grind
  have hp : (0 : Rat) < (b : Rat) * (b' : Rat) := Rat.mul_pos h1 h2
  constructor
  · intro h
    have h' : (t : Rat) * (b' : Rat) < (t' : Rat) * (b : Rat) := by exact_mod_cast h
    rw [← e1, ← e2] at h'
    refine Classical.byContradiction fun q => ?_
    have q' := Rat.mul_le_mul_of_nonneg_right (Rat.not_lt.mp q) (Rat.le_of_lt hp)
    exact absurd h' (Rat.not_lt.mpr q')
  · intro h
    have h' := Rat.mul_lt_mul_of_pos_right h hp
    rw [e1, e2] at h'
    exact_mod_cast h'
theorem vq_zero {b : Int} (hb : b ≠ 0) {t : Int} : vq t b = 0 ↔ t = 0 := by
  have h1 := rat_ne hb
  constructor
  · intro h
    have : (t : Rat) = 0 := by unfold vq at h; grind
    exact_mod_cast this
  · rintro rfl
    unfold vq
    push_cast
    grind
end

/-! ### promises by values -/
section
variable {P : Program} {w : World} {K : PySem.W.Frag} {mg : Str → Option Value} {base : Heap}
theorem at1 {α : Type} {x y : α} {xs : List α} : atI (x :: y :: xs) 1 = some y := atI_nat (j := 1) rfl
/-- fewer than n bits -/
def Sz (n : Nat) (t b : Int) : Prop := t.natAbs < 2 ^ n ∧ b.natAbs < 2 ^ n
theorem Sz.mono {n m : Nat} {t b : Int} (h : Sz n t b) (hn : n ≤ m) : Sz m t b := ⟨Nat.lt_of_lt_of_le h.1 (Nat.pow_le_pow_right (by decide) hn), Nat.lt_of_lt_of_le h.2 (Nat.pow_le_pow_right (by decide) hn)⟩
theorem Sz.sm {n : Nat} {t b : Int} (h : Sz n t b) (hn : n ≤ 3900) : SM t ∧ SM b := h.mono hn
theorem lt_mul {a b n m : Nat} (ha : a < 2 ^ n) (hb : b < 2 ^ m) : a * b < 2 ^ (n + m) := by
  rw [Nat.pow_add]
  exact Nat.mul_lt_mul'' ha hb
theorem Sz.mul {n m : Nat} {t b t' b' : Int} (h : Sz n t b) (h' : Sz m t' b') : Sz (n + m) (t * t') (b * b') := ⟨by rw [Int.natAbs_mul]; exact lt_mul h.1 h'.1, by rw [Int.natAbs_mul]; exact lt_mul h.2 h'.2⟩
theorem Sz.over {n m : Nat} {t b t' b' : Int} (h : Sz n t b) (h' : Sz m t' b') : Sz (n + m) (t * b') (b * t') := ⟨by rw [Int.natAbs_mul]; exact lt_mul h.1 h'.2, by rw [Int.natAbs_mul]; exact lt_mul h.2 h'.1⟩
theorem Sz.add {n m : Nat} {t b t' b' : Int} (h : Sz n t b) (h' : Sz m t' b') : Sz (n + m + 1) (t * b' + t' * b) (b * b') := by
  have h1 := lt_mul h.1 h'.2
  have h2 := lt_mul h'.1 h.2
  rw [Nat.add_comm m n] at h2
  have h3 := Int.natAbs_add_le (t * b') (t' * b)
  rw [Int.natAbs_mul, Int.natAbs_mul] at h3
  refine ⟨by rw [Nat.pow_succ]; omega, ?_⟩
  rw [Int.natAbs_mul]
  exact Nat.lt_of_lt_of_le (lt_mul h.2 h'.2) (Nat.pow_le_pow_right (by decide) (Nat.le_succ _))
theorem Sz.neg {n : Nat} {t b : Int} (h : Sz n t b) : Sz n (-t) b := ⟨by rw [Int.natAbs_neg]; exact h.1, h.2⟩
theorem Sz.low {n : Nat} {t b : Int} (h : Sz n t b) (hb : b ≠ 0) : Sz n (lowT t b) (lowB t b) := ⟨Nat.lt_of_le_of_lt (lowT_le hb) h.1, Nat.lt_of_le_of_lt (lowB_le hb) h.2⟩
/-- the ratio of this value stands at p -/
def RV (C : Addr) (H : Hp) (p : Addr) (x : Rat) (n : Nat) : Prop := ∃ t b, RatAt C H p t b ∧ Low t b ∧ vq t b = x ∧ Sz n t b
/-- a ratio or an int of this value -/
def NV (C : Addr) (H : Hp) (v : V) (x : Rat) (n : Nat) : Prop := ∃ t b, Num C H v t b ∧ Low t b ∧ vq t b = x ∧ Sz n t b
theorem RV.on {C : Addr} {H H' : Hp} {p : Addr} {x : Rat} {n : Nat} (r : RV C H p x n) (s : Same H H') : RV C H' p x n := let ⟨t, b, h1, h2⟩ := r; ⟨t, b, h1.on s, h2⟩
theorem NV.on {C : Addr} {H H' : Hp} {p : V} {x : Rat} {n : Nat} (r : NV C H p x n) (s : Same H H') : NV C H' p x n := let ⟨t, b, h1, h2⟩ := r; ⟨t, b, h1.on s, h2⟩
theorem RV.mono {C : Addr} {H : Hp} {p : Addr} {x : Rat} {n m : Nat} (r : RV C H p x n) (h : n ≤ m) : RV C H p x m := let ⟨t, b, h1, h2, h3, h4⟩ := r; ⟨t, b, h1, h2, h3, h4.mono h⟩
theorem NV.mono {C : Addr} {H : Hp} {p : V} {x : Rat} {n m : Nat} (r : NV C H p x n) (h : n ≤ m) : NV C H p x m := let ⟨t, b, h1, h2, h3, h4⟩ := r; ⟨t, b, h1, h2, h3, h4.mono h⟩
theorem RV.num {C : Addr} {H : Hp} {p : Addr} {x : Rat} {n : Nat} (r : RV C H p x n) : NV C H (.ref p) x n := let ⟨t, b, h1, h2⟩ := r; ⟨t, b, .inr ⟨p, rfl, h1⟩, h2⟩
theorem vq_one (t : Int) : vq t 1 = (t : Rat) := by
  unfold vq
  push_cast
  grind
theorem NV.int {C : Addr} {H : Hp} {n : Nat} (t : Int) (h : t.natAbs < 2 ^ n) (hn : 1 ≤ n) : NV C H (.int t) (t : Rat) n := ⟨t, 1, .inl ⟨rfl, rfl⟩, Low.one t, vq_one t, h, Nat.lt_of_lt_of_le (show 1 < 2 ^ 1 by decide) (Nat.pow_le_pow_right (by decide) hn)⟩
/-- both are ratios -/
def ResV (C : Addr) (H : Hp) (x : Rat) (n : Nat) (Q : VK) : Prop := ∀ q H', H q = none → Same H H' → RV C H' q x n → Q (.ref q) H'
def spAsV (C : Addr) : Sp := fun vs H Q _ => ∃ (v : V) (x : Rat) (n : Nat), vs = [v] ∧ NV C H v x n ∧ ∀ p H', Same H H' → RV C H' p x n → Q (.ref p) H'
theorem okv_as (T : Txt K mg) : FnOk P w K mg base CX0 3 T.f_as_ratio T.d_as_ratio ["value"] (spAsV T.f_Ratio) := (ok_asN T).imp fun vs H Q E ⟨v, x, n, e, ⟨t, b, nm, l, ev, sz⟩, k⟩ =>
  ⟨v, t, b, e, nm, fun p H' s r => k p H' s ⟨t, b, r, l, ev, sz⟩⟩
def spAddV (C : Addr) : Sp := fun vs H Q _ => ∃ (p : Addr) (y : V) (x x' : Rat) (n n' : Nat), vs = [.ref p, y] ∧ RV C H p x n ∧ NV C H y x' n' ∧ n ≤ 3900 ∧ n' ≤ 3900 ∧ ResV C H (x + x') (n + n' + 1) Q
def spSubV (C : Addr) : Sp := fun vs H Q _ => ∃ (p : Addr) (y : V) (x x' : Rat) (n n' : Nat), vs = [.ref p, y] ∧ RV C H p x n ∧ NV C H y x' n' ∧ n ≤ 3900 ∧ n' ≤ 3900 ∧ ResV C H (x - x') (n + n' + 1) Q
theorem okv_add (T : Txt K mg) : FnOk P w K mg base CX0 4 T.f_Ratio_add T.d_Ratio_add ["self", "other"] (spAddV T.f_Ratio) := (ok_add T).imp fun vs H Q E ⟨p, y, x, x', n, n', e, ⟨t, b, r, l, ev, sz⟩, ⟨t', b', nm, l', ev', sz'⟩, hn, hn', k⟩ =>
  ⟨p, y, t, b, t', b', e, r, nm, (sz.sm hn).1, (sz.sm hn).2, (sz'.sm hn').1, (sz'.sm hn').2, l.ne, l'.ne, fun q H' nq s rq => k q H' nq s ⟨_, _, rq, Low.of (Int.mul_ne_zero l.ne l'.ne), by rw [vq_low (Int.mul_ne_zero l.ne l'.ne), vq_add l.ne l'.ne, ev, ev'], (sz.add sz').low (Int.mul_ne_zero l.ne l'.ne)⟩⟩
theorem okv_sub (T : Txt K mg) : FnOk P w K mg base CX0 5 T.f_Ratio_sub T.d_Ratio_sub ["self", "other"] (spSubV T.f_Ratio) := (ok_sub T).imp fun vs H Q E ⟨p, y, x, x', n, n', e, ⟨t, b, r, l, ev, sz⟩, ⟨t', b', nm, l', ev', sz'⟩, hn, hn', k⟩ =>
  ⟨p, y, t, b, t', b', e, r, nm, (sz.sm hn).1, (sz.sm hn).2, (sz'.sm hn').1, (sz'.sm hn').2, l.ne, l', fun q H' nq s rq => k q H' nq s ⟨_, _, rq, Low.of (Int.mul_ne_zero l.ne l'.ne), by rw [vq_low (Int.mul_ne_zero l.ne l'.ne), vq_add l.ne l'.ne, vq_neg, ev, ev']; grind, (sz.add sz'.neg).low (Int.mul_ne_zero l.ne l'.ne)⟩⟩
end

/-! ### names -/
def lets : Str := "abcdefghijklmnopqrstuvwxyz"
def digs : Str := "0123456789"
def inNm (c : Nat) : Bool := decide (c ∈ lets.cps.toList) || decide (c ∈ digs.cps.toList)
def vnL : List Nat → Bool
  | [] => false
  | c :: r => decide (c ∈ lets.cps.toList) && (c :: r).all inNm
def vn (z : Str) : Bool := decide (1 ≤ z.length ∧ z.length ≤ 6) && vnL z.cps.toList
section
variable {P : Program} {w : World} {K : PySem.W.Frag} {mg : Str → Option Value} {base : Heap}
def spName : Sp := fun vs H Q _ => ∃ z : Str, vs = [.str z] ∧ z.length ≤ 1000 ∧ (∀ c ∈ z.cps.toList, c < 128) ∧ ∀ H', Same H H' → Q (.bl (vn z)) H'
theorem head_of {z : Str} (h : 1 ≤ z.length) : ∃ c r, z.cps.toList = c :: r := by
  cases e : z.cps.toList with
  | nil =>
    have : z.length = z.cps.toList.length := by simp [Str.length]
    rw [e] at this
    rw [this] at h
    exact absurd h (by decide)
  | cons c r => exact ⟨c, r, rfl⟩
theorem len_of (z : Str) : z.length = z.cps.toList.length := by simp [Str.length]
theorem ok_valid (T : Txt K mg) : FnOk P w K mg base CX0 1 T.f_valid_name T.d_valid_name ["text"] spName := by
  refine T.F_valid_name.ok sc_valid_name (fun vs H Q E h => ?_) (fun cdv A outer s H vs Q E hr h => ?_)
  · obtain ⟨z, rfl, _⟩ := h
    rfl
  · obtain ⟨z, rfl, hz, hc, k⟩ := h
    refine ⟨_, (pss_cons (ps_if (pt_not (pt_chain op_le op_le pe_int (pe_callB call_len_str (by rfl) T.n_len (by decide +kernel) (pa_cons (pv 0) pa_nil)) (pe_glob (v := V.int 6) rfl T.c_LONGEST_NAME ⟨_, rfl⟩)))
      (pss_one (ps_ret pe_bl))
      pss_nil)
    (pss_one (ps_ret (pe_and (pe_cmpR op_in_sign (pe_ix ix_str (pv 0) pe_int (fun _ _ => rfl)) (pe_glob (v := V.str "abcdefghijklmnopqrstuvwxyz") rfl T.c_LETTERS ⟨_, rfl⟩) rfl) (pe_one (pe_callB (cr_all rfl) (by rfl) T.n_all (by decide +kernel) (pa_cons (pe_lc (own := [("char", 1)]) (g := gName 1) (tt := tYes) rfl sc_valid_name.nd (pi_str (pv 0)) (blkOk_by (N := ["text", "char"]) (sc := defScope s_valid_name) (by decide +kernel)) (fun _ _ _ _ _ => pg_name (i := 1) sc_valid_name.nd rfl (Or.inl rfl)) (fun _ _ _ _ _ => pts_nil) (fun _ _ _ _ _ => (pe_or (pe_cmpR op_in_sign (pv 1) (pe_glob (v := V.str "abcdefghijklmnopqrstuvwxyz") rfl T.c_LETTERS ⟨_, rfl⟩) rfl) (pe_one (pe_cmpR op_in_sign (pv 1) (pe_glob (v := V.str "0123456789") rfl T.c_DIGITS ⟨_, rfl⟩) rfl))))) pa_nil))))))), ?_⟩
    have hzl : z.length ≤ sizeLine := Nat.le_of_lt (small1000 hz)
    -- the length
    refine ⟨_, rfl, z, rfl, hzl, 1, (z.length : Int), rfl, rfl, _, rfl, ite2 (fun h1 => ?_) fun h1 => ?_⟩
    · have h1' : (1 : Int) ≤ z.length := of_decide_eq_true h1
      refine ⟨_, 6, rfl, rfl, _, rfl, ite2 (fun h2 => ?_) fun h2 => ?_⟩
      · have h2' : ¬ (z.length : Int) ≤ 6 := by simpa using h2
        have e : vn z = false := by
          unfold vn
          rw [decide_eq_false (by omega), Bool.false_and]
        have := k H (Same.refl H)
        rw [e] at this
        exact this
      · have h2' : (z.length : Int) ≤ 6 := by simpa using h2
        obtain ⟨c, r, ez⟩ := head_of (z := z) (by omega)
        have ev : vn z = vnL (c :: r) := by
          unfold vn
          rw [decide_eq_true (by omega), Bool.true_and, ez]
        refine ⟨_, rfl, z, 0, c, rfl, rfl, hzl, by rw [ez]; exact at0, c, lets, rfl, rfl, _, rfl, ite2 (fun hl => ?_) fun hl => ?_⟩
        · refine ⟨_, rfl, z, rfl, fun D hD => ?_⟩
          refine lc_str (fun i H1 => H1 D = some (.lst ((z.cps.toList.take i).map fun c => V.bl (inNm c))) ∧ Same H H1) ⟨upd_same, same_upd hD⟩ ?_ ?_
          · intro i d H1 hi ⟨eD, sm⟩
            have hi2 : i < 1000 := by
              have := (List.getElem?_eq_some_iff.mp hi).1
              rw [← len_of] at this
              omega
            have fin : ∀ b : Bool, b = inNm d → ∃ acc, H1 D = some (.lst acc) ∧ acc.length < sizeLine ∧ (upd H1 D (.lst (acc ++ [V.bl b]))) D = some (.lst ((z.cps.toList.take (i + 1)).map fun c => V.bl (inNm c))) ∧ Same H (upd H1 D (.lst (acc ++ [V.bl b]))) := by
              intro b eb
              refine ⟨_, eD, small1000 (by rw [List.length_map, List.length_take]; omega), ?_, same_mut sm hD⟩
              rw [upd_same, take_more hi, List.map_append, eb]
              rfl
            refine ⟨rfl, _, rfl, d, lets, rfl, rfl, _, rfl, ite2 (fun h => ?_) fun h => ?_⟩
            · exact fin true (by unfold inNm; rw [h, Bool.true_or])
            · exact ⟨_, rfl, d, digs, rfl, rfl, fin _ (by unfold inNm; rw [Bool.eq_false_iff.mpr h, Bool.false_or])⟩
          · intro H1 ⟨eD, sm⟩
            have et : z.cps.toList.take z.cps.size = z.cps.toList := List.take_of_length_le (by simp)
            rw [et] at eD
            refine ⟨D, z.cps.toList.map inNm, rfl, SqL.of (by rw [eD, List.map_map]; rfl), ?_⟩
            have e2 : vn z = ((z.cps.toList.map inNm).all id) := by
              rw [ev, ez]
              show (decide (c ∈ lets.cps.toList) && (c :: r).all inNm) = _
              rw [hl, Bool.true_and, List.all_map]
              rfl
            rw [← e2]
            exact k H1 sm
        · have e : vn z = false := by
            rw [ev]
            show (decide (c ∈ lets.cps.toList) && (c :: r).all inNm) = false
            rw [Bool.eq_false_iff.mpr hl, Bool.false_and]
          have := k H (Same.refl H)
          rw [e] at this
          exact this
    · have h1' : ¬ (1 : Int) ≤ z.length := fun q => h1 (decide_eq_true q)
      refine ⟨_, rfl, iteT ?_⟩
      have e : vn z = false := by
        unfold vn
        rw [decide_eq_false (by omega), Bool.false_and]
      have := k H (Same.refl H)
      rw [e] at this
      exact this
theorem vn_eq {z : Str} {c : Nat} {r : List Nat} (h : 1 ≤ z.length ∧ z.length ≤ 6) (ez : z.cps.toList = c :: r) (hl : decide (c ∈ lets.cps.toList) = true) : vn z = (c :: r).all inNm := by
  unfold vn
  rw [decide_eq_true h, Bool.true_and, ez]
  show (decide (c ∈ lets.cps.toList) && (c :: r).all inNm) = _
  rw [hl, Bool.true_and]
theorem vn_no {z : Str} {c : Nat} {r : List Nat} (ez : z.cps.toList = c :: r) (hl : ¬ decide (c ∈ lets.cps.toList) = true) : vn z = false := by
  unfold vn
  rw [ez]
  show (_ && (decide (c ∈ lets.cps.toList) && (c :: r).all inNm)) = false
  rw [Bool.eq_false_iff.mpr hl, Bool.false_and, Bool.and_false]
theorem vn_len {z : Str} (h : ¬ (1 ≤ z.length ∧ z.length ≤ 6)) : vn z = false := by
  unfold vn
  rw [decide_eq_false h, Bool.false_and]
end

/-! ### the errors' own constructors -/
section
variable {P : Program} {w : World} {K : PySem.W.Frag} {mg : Str → Option Value} {base : Heap}
def spErr (nm : Str) (C : Addr) : Sp := fun vs H Q _ => ∃ (a : Addr) (v : V), vs = [.ref a, v] ∧ H a = some (exo a C none) ∧ ∀ dx H', H dx = none → dx ≠ a → H' = upd (upd H dx (exd dx [(nm, v)])) a (exo a C (some dx)) → Q .non H'
theorem ok_eBadName (T : Txt K mg) : FnOk P w K mg base CX0 1 T.f_BadName_init T.d_BadName_init ["self", "name"] (spErr "name" T.f_BadName) := by
  refine T.F_BadName_init.ok sc_BadName_init (fun vs H Q E h => ?_) (fun cdv A outer s H vs Q E hr h => ?_)
  · obtain ⟨a, v, rfl, _⟩ := h
    rfl
  · obtain ⟨a, v, rfl, ha, k⟩ := h
    refine ⟨_, (pss_one (ps_ost (pv 0) (pv 1))), ?_⟩
    exact ⟨_, rfl, _, rfl, a, T.f_BadName, rfl, T.ox_BadName, T.no_BadName_name, .inl ⟨ha, fun dx nd ne => k dx _ nd ne rfl⟩⟩
theorem ok_eDuplicateName (T : Txt K mg) : FnOk P w K mg base CX0 1 T.f_DuplicateName_init T.d_DuplicateName_init ["self", "name"] (spErr "name" T.f_DuplicateName) := by
  refine T.F_DuplicateName_init.ok sc_DuplicateName_init (fun vs H Q E h => ?_) (fun cdv A outer s H vs Q E hr h => ?_)
  · obtain ⟨a, v, rfl, _⟩ := h
    rfl
  · obtain ⟨a, v, rfl, ha, k⟩ := h
    refine ⟨_, (pss_one (ps_ost (pv 0) (pv 1))), ?_⟩
    exact ⟨_, rfl, _, rfl, a, T.f_DuplicateName, rfl, T.ox_DuplicateName, T.no_DuplicateName_name, .inl ⟨ha, fun dx nd ne => k dx _ nd ne rfl⟩⟩
theorem ok_eUnknownName (T : Txt K mg) : FnOk P w K mg base CX0 1 T.f_UnknownName_init T.d_UnknownName_init ["self", "name"] (spErr "name" T.f_UnknownName) := by
  refine T.F_UnknownName_init.ok sc_UnknownName_init (fun vs H Q E h => ?_) (fun cdv A outer s H vs Q E hr h => ?_)
  · obtain ⟨a, v, rfl, _⟩ := h
    rfl
  · obtain ⟨a, v, rfl, ha, k⟩ := h
    refine ⟨_, (pss_one (ps_ost (pv 0) (pv 1))), ?_⟩
    exact ⟨_, rfl, _, rfl, a, T.f_UnknownName, rfl, T.ox_UnknownName, T.no_UnknownName_name, .inl ⟨ha, fun dx nd ne => k dx _ nd ne rfl⟩⟩
theorem ok_eBadCount (T : Txt K mg) : FnOk P w K mg base CX0 1 T.f_BadCount_init T.d_BadCount_init ["self", "count"] (spErr "count" T.f_BadCount) := by
  refine T.F_BadCount_init.ok sc_BadCount_init (fun vs H Q E h => ?_) (fun cdv A outer s H vs Q E hr h => ?_)
  · obtain ⟨a, v, rfl, _⟩ := h
    rfl
  · obtain ⟨a, v, rfl, ha, k⟩ := h
    refine ⟨_, (pss_one (ps_ost (pv 0) (pv 1))), ?_⟩
    exact ⟨_, rfl, _, rfl, a, T.f_BadCount, rfl, T.ox_BadCount, T.no_BadCount_count, .inl ⟨ha, fun dx nd ne => k dx _ nd ne rfl⟩⟩
/-- an exception's own dict, new -/
def Raised (H : Hp) (nm : Str) (v : V) (D : Addr) (E : XK) : Prop := ∀ d H', H d = none → Same H H' → H' d = some (.xd [(nm, v)]) → E (.ref D) (some d) H'
theorem Raised.on {H H2 : Hp} {nm : Str} {v : V} {D : Addr} {E : XK} (r : Raised H nm v D E) (s : Same H H2) : Raised H2 nm v D E := fun d H' nd sm e => r d H' (s.free nd) (s.trans sm) e
/-- what a raise asks -/
theorem raise_asks {H : Hp} {nm : Str} {v : V} {D a : Addr} {E : XK} (na : H a = none) (k : Raised H nm v D E) (d : Addr) (H' : Hp) (nd : (upd H a (exo a D none)) d = none) (ne : d ≠ a) (e : H' = upd (upd (upd H a (exo a D none)) d (exd d [(nm, v)])) a (exo a D (some d))) :
    H' a = some (exo a D (some d)) ∧ H' d = some (exd d [(nm, v)]) ∧ H d = none ∧ E (.ref D) (some d) (upd (del H' a) d (.xd [(nm, v)])) := by
  have nd' : H d = none := by rw [upd_ne ne] at nd; exact nd
  refine ⟨by rw [e]; exact upd_same, by rw [e, upd_ne ne]; exact upd_same, nd', k d _ nd' (fun b o hb => ?_) upd_same⟩
  have n1 : b ≠ d := ne_of_none hb nd'
  have n2 : b ≠ a := ne_of_none hb na
  rw [upd_ne n1, del_ne n2, e, upd_ne n2, upd_ne n1, upd_ne n2]
  exact hb
/-- of the raising reading the calm one -/
theorem calm_of {k : Nat} {f : Addr} {fd : FuncData} {ps : List Str} {sp : Sp} (F : FnOk P w K mg base (L2.CX P w) k f fd ps sp) : FnOk P w K mg base CX0 k f fd ps (fun vs H Q _ => sp vs H Q E0) := by
  refine ⟨fun vs H Q E q => F.len vs H Q E0 q, fun A outer s H args us vs Q E hr he hb hv hs => codeAny_mono (F.run A outer s H args us vs Q E0 hr he hb hv hs) fun r s' q => ?_⟩
  cases r with
  | ok fl => cases fl <;> exact q
  | error e =>
    obtain ⟨_, _, _, _, _, _, _, _, _, _, _, _, z⟩ := q
    exact z.elim
end

/-! ### the errors of networks -/
section
variable {P : Program} {w : World} {K : PySem.W.Frag} {mg : Str → Option Value} {base : Heap}
theorem ok_eHasRound (T : Txt K mg) : FnOk P w K mg base CX0 1 T.f_HasRound_init T.d_HasRound_init ["self", "name"] (spErr "name" T.f_HasRound) := by
  refine T.F_HasRound_init.ok sc_HasRound_init (fun vs H Q E h => ?_) (fun cdv A outer s H vs Q E hr h => ?_)
  · obtain ⟨a, v, rfl, _⟩ := h
    rfl
  · obtain ⟨a, v, rfl, ha, k⟩ := h
    refine ⟨_, (pss_one (ps_ost (pv 0) (pv 1))), ?_⟩
    exact ⟨_, rfl, _, rfl, a, T.f_HasRound, rfl, T.ox_HasRound, T.no_HasRound_name, .inl ⟨ha, fun dx nd ne => k dx _ nd ne rfl⟩⟩
theorem ok_eUselessLink (T : Txt K mg) : FnOk P w K mg base CX0 1 T.f_UselessLink_init T.d_UselessLink_init ["self", "name"] (spErr "name" T.f_UselessLink) := by
  refine T.F_UselessLink_init.ok sc_UselessLink_init (fun vs H Q E h => ?_) (fun cdv A outer s H vs Q E hr h => ?_)
  · obtain ⟨a, v, rfl, _⟩ := h
    rfl
  · obtain ⟨a, v, rfl, ha, k⟩ := h
    refine ⟨_, (pss_one (ps_ost (pv 0) (pv 1))), ?_⟩
    exact ⟨_, rfl, _, rfl, a, T.f_UselessLink, rfl, T.ox_UselessLink, T.no_UselessLink_name, .inl ⟨ha, fun dx nd ne => k dx _ nd ne rfl⟩⟩
end

/-! ### links in a dict -/
/-- a link: its name, its ends -/
abbrev Ent := Str × Str × Str
section
variable {P : Program} {w : World} {K : PySem.W.Frag} {mg : Str → Option Value} {base : Heap}
/-- an entry of a dict: the name, the tuple of both ends -/
def EntOk (H : Hp) (q : Key × V) (e : Ent) : Prop := q.1 = .inr e.1 ∧ ∃ p, q.2 = .ref p ∧ H p = some (.tup [.str e.2.1, .str e.2.2])
theorem EntOk.on {H H' : Hp} {q : Key × V} {e : Ent} (r : EntOk H q e) (s : ∀ c o, H c = some (.tup o) → H' c = some (.tup o)) : EntOk H' q e := let ⟨h1, p, h2, h3⟩ := r; ⟨h1, p, h2, s _ _ h3⟩
/-- the links as a dict -/
def DictAt (H : Hp) (d : Addr) (es : List Ent) : Prop := ∃ kvs, H d = some (.dK kvs) ∧ Paired (EntOk H) kvs es
def names (es : List Ent) : List Str := es.map (·.1)
/-- fine links: names that differ, at most ten -/
structure FineE (es : List Ent) : Prop where
  nd : (names es).Nodup
  few : es.length ≤ 10
theorem paired_on {α β : Type} {F G : α → β → Prop} (h : ∀ a b, F a b → G a b) : ∀ {xs : List α} {ys : List β}, Paired F xs ys → Paired G xs ys
  | _, _, .nil => .nil
  | _, _, .cons a r => .cons (h _ _ a) (paired_on h r)
theorem DictAt.on {H H' : Hp} {d : Addr} {es : List Ent} (r : DictAt H d es) (s : ∀ c o, H c = some (.tup o) → H' c = some (.tup o)) (hd : ∀ kvs, H d = some (.dK kvs) → H' d = some (.dK kvs)) : DictAt H' d es :=
  let ⟨kvs, h1, h2⟩ := r; ⟨kvs, hd _ h1, paired_on (fun _ _ e => e.on s) h2⟩
theorem DictAt.same {H H' : Hp} {d : Addr} {es : List Ent} (r : DictAt H d es) (s : Same H H') : DictAt H' d es := r.on (fun c o e => s c _ e) fun _ e => s _ _ e
/-- what a dict tells of a name -/
def found (es : List Ent) (n : Str) : Option (Str × Str) := (es.find? fun e => decide (e.1 = n)).map (·.2)
theorem val_found {H : Hp} {n : Str} : ∀ {kvs : List (Key × V)} {es : List Ent}, Paired (EntOk H) kvs es →
    (found es n = none ∧ valV kvs (.inr n : Key) = none) ∨ ∃ e p, found es n = some e ∧ valV kvs (.inr n : Key) = some (.ref p) ∧ H p = some (.tup [.str e.1, .str e.2])
  | _, _, .nil => .inl ⟨rfl, rfl⟩
  | (k, v) :: kvs, e :: es, .cons a r => by
    obtain ⟨h1, p, h2, h3⟩ := a
    have h1 : k = .inr e.1 := h1
    have h2 : v = .ref p := h2
    subst h1 h2
    by_cases q : e.1 = n
    · right
      refine ⟨e.2, p, ?_, valV_pos (by rw [q]), h3⟩
      unfold found
      rw [List.find?_cons_of_pos (by simp [q])]
      rfl
    · have f : found (e :: es) n = found es n := by
        unfold found
        rw [List.find?_cons_of_neg (by simp [q])]
      have g : valV ((.inr e.1, V.ref p) :: kvs) (.inr n : Key) = valV kvs (.inr n) := valV_neg (fun z => q (Sum.inr.inj z))
      rw [f, g]
      exact val_found r
theorem found_some {es : List Ent} {n : Str} : (found es n).isSome = decide (n ∈ names es) := by
  unfold found names
  induction es with
  | nil => rfl
  | cons e r ih =>
    by_cases q : e.1 = n
    · rw [List.find?_cons_of_pos (by simp [q])]
      simp [q]
    · rw [List.find?_cons_of_neg (by simp [q]), ih]
      have : ¬ n = e.1 := fun z => q z.symm
      simp [this]
theorem keys_of {H : Hp} : ∀ {kvs : List (Key × V)} {es : List Ent}, Paired (EntOk H) kvs es → (kvs.map fun kv => kV kv.1) = (names es).map V.str
  | _, _, .nil => rfl
  | (k, v) :: kvs, e :: es, .cons a r => by
    have h1 : k = .inr e.1 := a.1
    subst h1
    show kV (.inr e.1) :: (kvs.map fun kv => kV kv.1) = _
    rw [keys_of r]
    rfl
theorem inV_names (n : Str) (zs : List Str) : inV (.str n) (zs.map V.str) = decide (n ∈ zs) := by
  unfold inV
  induction zs with
  | nil => rfl
  | cons z r ih =>
    rw [List.map_cons, List.any_cons, ih]
    by_cases h : n = z
    · subst h; simp [eqV]
    · have h2 : ¬ z = n := fun q => h q.symm
      simp [eqV, h, h2]
theorem flat_names (zs : List Str) : (zs.map V.str).all flatV = true := by
  rw [List.all_map]
  exact List.all_eq_true.mpr fun _ _ => rfl
theorem names_take {es : List Ent} {i : Nat} {e : Ent} (h : es[i]? = some e) : names (es.take (i + 1)) = names (es.take i) ++ [e.1] := by
  rw [take_more h]
  unfold names
  rw [List.map_append]
  rfl
theorem pair_at {α β : Type} {F : α → β → Prop} : ∀ {xs : List α} {ys : List β}, Paired F xs ys → ∀ {i : Nat} {x : α}, xs[i]? = some x → ∃ y, ys[i]? = some y ∧ F x y
  | _, _, .nil, i, x, h => by simp at h
  | _, _, .cons a r, 0, x, h => ⟨_, rfl, by rw [← Option.some.inj h]; exact a⟩
  | _, _, .cons a r, i + 1, x, h => pair_at r (i := i) h
theorem paired_snoc {α β : Type} {F : α → β → Prop} {a : α} {b : β} (h : F a b) : ∀ {xs : List α} {ys : List β}, Paired F xs ys → Paired F (xs ++ [a]) (ys ++ [b])
  | _, _, .nil => .cons h .nil
  | _, _, .cons a r => .cons a (paired_snoc h r)
/-- a word of few signs, all plain -/
def Wn (z : Str) : Prop := z.length ≤ 1000 ∧ ∀ c ∈ z.cps.toList, c < 128
/-- the first of some words that is no name -/
def bad (zs : List Str) : Option Str := zs.find? fun z => !vn z
def stored (es : List Ent) (n : Str) (e : Str × Str) : List Ent := if n ∈ names es then es.map (fun q => if q.1 = n then (q.1, e) else q) else es ++ [(n, e)]
theorem stored_ok {H : Hp} {kvs : List (Key × V)} {es : List Ent} {n : Str} {e : Str × Str} {q : Addr} (h : Paired (EntOk H) kvs es) (hq : H q = some (.tup [.str e.1, .str e.2])) : Paired (EntOk H) (putK kvs (.inr n : Key) (.ref q)) (stored es n e) := by
  have hany : (kvs.any fun kv => decide (kv.1 = (.inr n : Key))) = decide (n ∈ names es) := by
    rw [valV_any, ← found_some]
    rcases val_found (n := n) h with ⟨e1, e2⟩ | ⟨e, p, e1, e2, _⟩ <;> rw [e1, e2] <;> rfl
  unfold putK stored
  by_cases hn : n ∈ names es
  · rw [hany, decide_eq_true hn, if_pos rfl, if_pos hn]
    clear hany hn
    induction h with
    | nil => exact .nil
    | @cons a b as bs r rr ih =>
      refine .cons ?_ ih
      obtain ⟨h1, p, h2, h3⟩ := r
      show EntOk H (if a.1 = (.inr n : Key) then (a.1, V.ref q) else a) (if b.1 = n then (b.1, e) else b)
      by_cases hb : b.1 = n
      · rw [if_pos (by rw [h1, hb]), if_pos hb]
        exact ⟨by show a.1 = _; exact h1, q, rfl, hq⟩
      · rw [if_neg (fun z => hb (Sum.inr.inj (h1.symm.trans z))), if_neg hb]
        exact ⟨h1, p, h2, h3⟩
  · rw [hany, decide_eq_false hn, if_neg Bool.false_ne_true, if_neg hn]
    exact paired_snoc ⟨rfl, q, rfl, hq⟩ h
theorem bad_at : ∀ {zs : List Str} {i : Nat} {z : Str}, (∀ q ∈ zs.take i, vn q = true) → zs[i]? = some z → ¬ vn z = true → bad zs = some z
  | [], i, z, _, h, _ => by simp at h
  | q :: r, 0, z, _, h, hv => by
    have e : q = z := Option.some.inj h
    subst e
    unfold bad
    rw [List.find?_cons_of_pos (by simpa using hv)]
  | q :: r, i + 1, z, ha, h, hv => by
    have ih := bad_at (zs := r) (i := i) (z := z) (fun q' hq => ha q' (List.mem_cons_of_mem _ hq)) h hv
    unfold bad at ih ⊢
    rw [List.find?_cons_of_neg (by rw [ha q List.mem_cons_self]; decide)]
    exact ih
end

/-! ### what links lead to -/
/-- q is reached from p by one or more links -/
inductive Lead (es : List Ent) : Str → Str → Prop
  | one {e : Ent} : e ∈ es → Lead es e.2.1 e.2.2
  | more {p : Str} {e : Ent} : Lead es p e.2.1 → e ∈ es → Lead es p e.2.2
theorem Lead.step {es : List Ent} {p : Str} {e : Ent} (h : p = e.2.1 ∨ Lead es p e.2.1) (he : e ∈ es) : Lead es p e.2.2 := by
  rcases h with rfl | h
  · exact .one he
  · exact .more h he
theorem Lead.trans {es : List Ent} {p q r : Str} (h : Lead es p q) (h2 : Lead es q r) : Lead es p r := by
  induction h2 with
  | one he => exact .more h he
  | more _ he ih => exact .more (ih h) he
theorem Lead.mono {es fs : List Ent} {p q : Str} (h : Lead es p q) (s : ∀ e ∈ es, e ∈ fs) : Lead fs p q := by
  induction h with
  | one he => exact .one (s _ he)
  | more _ he ih => exact .more ih (s _ he)
theorem Lead.last {es : List Ent} {p q : Str} (h : Lead es p q) : ∃ e ∈ es, e.2.2 = q := by
  cases h with
  | one he => exact ⟨_, he, rfl⟩
  | more _ he => exact ⟨_, he, rfl⟩
theorem Lead.first {es : List Ent} {p q : Str} (h : Lead es p q) : ∃ e ∈ es, e.2.1 = p := by
  induction h with
  | one he => exact ⟨_, he, rfl⟩
  | more _ _ ih => exact ih
theorem Lead.cons {es : List Ent} {p q : Str} (h : Lead es p q) : ∃ e ∈ es, e.2.1 = p ∧ (e.2.2 = q ∨ Lead es e.2.2 q) := by
  induction h with
  | one he => exact ⟨_, he, rfl, .inl rfl⟩
  | more _ he ih =>
    obtain ⟨e, h1, h2, h3⟩ := ih
    exact ⟨e, h1, h2, .inr (h3.elim (fun z => z ▸ .one he) fun z => .more z he)⟩
/-- while what lies behind p is sought: found, waiting -/
structure Seek (es : List Ent) (p : Str) (F W : List Str) : Prop where
  sound : ∀ q ∈ F, Lead es p q
  wait : ∀ q ∈ W, q = p ∨ q ∈ F
  nd : F.Nodup
  clo : ∀ q, q = p ∨ q ∈ F → q ∈ W ∨ ∀ e ∈ es, e.2.1 = q → e.2.2 ∈ F
theorem Seek.start (es : List Ent) (p : Str) : Seek es p [] [p] where
  sound := fun q h => by cases h
  wait := fun q h => .inl (List.mem_singleton.mp h)
  nd := List.nodup_nil
  clo := fun q h => by
    rcases h with h | h
    · exact .inl (List.mem_singleton.mpr h)
    · cases h
theorem Seek.done {es : List Ent} {p : Str} {F : List Str} (s : Seek es p F []) (q : Str) : q ∈ F ↔ Lead es p q := by
  refine ⟨s.sound q, fun h => ?_⟩
  have cl : ∀ q, q = p ∨ q ∈ F → ∀ e ∈ es, e.2.1 = q → e.2.2 ∈ F := fun q h => (s.clo q h).elim (fun z => by cases z) id
  induction h with
  | one he => exact cl _ (.inl rfl) _ he rfl
  | more _ he ih => exact cl _ (.inr (ih ⟨s.sound, s.wait, s.nd, s.clo⟩ cl)) _ he rfl
/-- while the links of one place are walked -/
structure SeekAt (es : List Ent) (p c : Str) (i : Nat) (F W : List Str) : Prop where
  sound : ∀ q ∈ F, Lead es p q
  wait : ∀ q ∈ W, q = p ∨ q ∈ F
  nd : F.Nodup
  at_ : p = c ∨ Lead es p c
  here : ∀ e ∈ es.take i, e.2.1 = c → e.2.2 ∈ F
  clo : ∀ q, q = p ∨ q ∈ F → q ∈ W ∨ q = c ∨ ∀ e ∈ es, e.2.1 = q → e.2.2 ∈ F
theorem Seek.pop {es : List Ent} {p c : Str} {F W : List Str} (s : Seek es p F (W ++ [c])) : SeekAt es p c 0 F W where
  sound := s.sound
  wait := fun q h => s.wait q (List.mem_append_left _ h)
  nd := s.nd
  at_ := by
    rcases s.wait c (List.mem_append_right _ (List.mem_singleton.mpr rfl)) with h | h
    · exact .inl h.symm
    · exact .inr (s.sound c h)
  here := fun e h => by simp at h
  clo := fun q h => by
    rcases s.clo q h with h | h
    · rcases List.mem_append.mp h with h | h
      · exact .inl h
      · exact .inr (.inl (List.mem_singleton.mp h))
    · exact .inr (.inr h)
theorem SeekAt.skip {es : List Ent} {p c : Str} {i : Nat} {e : Ent} {F W : List Str} (s : SeekAt es p c i F W) (he : es[i]? = some e) (h : e.2.1 = c → e.2.2 ∈ F) : SeekAt es p c (i + 1) F W :=
  ⟨s.sound, s.wait, s.nd, s.at_, fun f hf hc => by
    rw [take_more he] at hf
    rcases List.mem_append.mp hf with hf | hf
    · exact s.here f hf hc
    · rw [List.mem_singleton.mp hf] at hc ⊢
      exact h hc, s.clo⟩
theorem SeekAt.add {es : List Ent} {p c : Str} {i : Nat} {e : Ent} {F W : List Str} (s : SeekAt es p c i F W) (he : es[i]? = some e) (h : e.2.1 = c) (hn : e.2.2 ∉ F) : SeekAt es p c (i + 1) (F ++ [e.2.2]) (W ++ [e.2.2]) where
  sound := fun q hq => by
    rcases List.mem_append.mp hq with hq | hq
    · exact s.sound q hq
    · rw [List.mem_singleton.mp hq]
      exact Lead.step (h ▸ s.at_) (List.mem_of_getElem? he)
  wait := fun q hq => by
    rcases List.mem_append.mp hq with hq | hq
    · exact (s.wait q hq).imp id fun z => List.mem_append_left _ z
    · exact .inr (List.mem_append_right _ hq)
  nd := List.nodup_append.mpr ⟨s.nd, (by simp), fun a ha b hb => by rw [List.mem_singleton.mp hb]; exact fun z => hn (z ▸ ha)⟩
  at_ := s.at_
  here := fun f hf hc => by
    rw [take_more he] at hf
    rcases List.mem_append.mp hf with hf | hf
    · exact List.mem_append_left _ (s.here f hf hc)
    · rw [List.mem_singleton.mp hf]
      exact List.mem_append_right _ (List.mem_singleton.mpr rfl)
  clo := fun q hq => by
    have up : ∀ z : Str, z ∈ F → z ∈ F ++ [e.2.2] := fun z => List.mem_append_left _
    have old : q = p ∨ q ∈ F → q ∈ W ++ [e.2.2] ∨ q = c ∨ ∀ f ∈ es, f.2.1 = q → f.2.2 ∈ F ++ [e.2.2] := fun h => by
      rcases s.clo q h with h | h | h
      · exact .inl (List.mem_append_left _ h)
      · exact .inr (.inl h)
      · exact .inr (.inr fun f hf e => up _ (h f hf e))
    rcases hq with hq | hq
    · exact old (.inl hq)
    · rcases List.mem_append.mp hq with hq | hq
      · exact old (.inr hq)
      · exact .inl (List.mem_append_right _ hq)
theorem SeekAt.back {es : List Ent} {p c : Str} {F W : List Str} (s : SeekAt es p c es.length F W) : Seek es p F W := ⟨s.sound, s.wait, s.nd, fun q h => by
  rcases s.clo q h with h | h | h
  · exact .inl h
  · exact .inr fun e he hc => s.here e (by rw [List.take_length]; exact he) (hc.trans h)
  · exact .inr h⟩
theorem nd_len {α : Type} [DecidableEq α] : ∀ {l m : List α}, l.Nodup → (∀ x ∈ l, x ∈ m) → l.length ≤ m.length
  | [], _, _, _ => Nat.zero_le _
  | x :: l, m, nd, s => by
    have hx := s x List.mem_cons_self
    have hl : ∀ y ∈ l, y ∈ m.erase x := fun y hy => by
      have ne : y ≠ x := fun z => (List.nodup_cons.mp nd).1 (z ▸ hy)
      exact (List.mem_erase_of_ne ne).mpr (s y (List.mem_cons_of_mem _ hy))
    have ih := nd_len (List.nodup_cons.mp nd).2 hl
    have e := List.length_erase_of_mem hx
    have pos : 0 < m.length := List.length_pos_of_mem hx
    rw [List.length_cons]
    omega
theorem found_few {es : List Ent} {p : Str} {F : List Str} (nd : F.Nodup) (s : ∀ q ∈ F, Lead es p q) : F.length ≤ es.length := by
  rw [← List.length_map (f := fun e : Ent => e.2.2) (as := es)]
  refine nd_len nd fun q hq => ?_
  obtain ⟨e, he, rfl⟩ := (s q hq).last
  exact List.mem_map.mpr ⟨e, he, rfl⟩

/-! ### the places behind one -/
/-- the links as a dict that may be locked -/
def DictRd (H : Hp) (d : Addr) (es : List Ent) : Prop := ∃ kvs, Rd H d (.dK kvs) ∧ Paired (EntOk H) kvs es
section
variable {P : Program} {w : World} {K : PySem.W.Frag} {mg : Str → Option Value} {base : Heap}
theorem DictAt.rd {H : Hp} {d : Addr} {es : List Ent} (h : DictAt H d es) : DictRd H d es := let ⟨kvs, a, b⟩ := h; ⟨kvs, .inl a, b⟩
theorem Rd.on {H H' : Hp} {d : Addr} {u : HO} (h : Rd H d u) (s : Same H H') : Rd H' d u := h.elim (fun z => .inl (s _ _ z)) fun ⟨o, z⟩ => .inr ⟨o, s _ _ z⟩
theorem DictRd.same {H H' : Hp} {d : Addr} {es : List Ent} (h : DictRd H d es) (s : Same H H') : DictRd H' d es := let ⟨kvs, a, b⟩ := h; ⟨kvs, Rd.on a s, paired_on (fun _ _ e => e.on fun c o => s c _) b⟩
/-- two lists beside what was -/
structure Two2 (H Hc : Hp) (f wt : Addr) (F W : List Str) : Prop where
  same : Same H Hc
  nf : H f = none
  nw : H wt = none
  ne : f ≠ wt
  hf : Hc f = some (.lst (F.map V.str))
  hw : Hc wt = some (.lst (W.map V.str))
theorem Two2.setW {H Hc : Hp} {f wt : Addr} {F W : List Str} (t : Two2 H Hc f wt F W) (W' : List Str) : Two2 H (upd Hc wt (.lst (W'.map V.str))) f wt F W' :=
  ⟨same_mut t.same t.nw, t.nf, t.nw, t.ne, by rw [upd_ne t.ne]; exact t.hf, upd_same⟩
theorem Two2.setF {H Hc : Hp} {f wt : Addr} {F W : List Str} (t : Two2 H Hc f wt F W) (F' : List Str) : Two2 H (upd Hc f (.lst (F'.map V.str))) f wt F' W :=
  ⟨same_mut t.same t.nf, t.nf, t.nw, t.ne, upd_same, by rw [upd_ne t.ne.symm]; exact t.hw⟩
def spBehind : Sp := fun vs H Q _ => ∃ (d : Addr) (es : List Ent) (p : Str), vs = [.ref d, .str p] ∧ DictRd H d es ∧ es.length ≤ 100 ∧ ∀ (l : Addr) (F : List Str) (H' : Hp), H l = none → Same H H' → H' l = some (.lst (F.map V.str)) → F.Nodup → (∀ q, q ∈ F ↔ Lead es p q) → Q (.ref l) H'
theorem ok_behind (T : Txt K mg) : FnOk P w K mg base CX0 1 T.f_places_behind T.d_places_behind ["table", "first"] spBehind := by
  refine T.F_places_behind.ok sc_places_behind (fun vs H Q E h => ?_) (fun cdv A outer s H vs Q E hr h => ?_)
  · obtain ⟨d, es, p, rfl, _⟩ := h
    rfl
  · obtain ⟨d, es, p, rfl, ⟨kvs, hd, hp⟩, hfew, k⟩ := h
    refine ⟨_, (pss_cons (ps_set (i := 2) sc_places_behind.nd rfl (Or.inl rfl) (pe_lst pa_nil))
    (pss_cons (ps_set (i := 3) sc_places_behind.nd rfl (Or.inl rfl) (pe_lst (pa_cons (pv 1) pa_nil)))
    (C8.pss_cut (ps_while PassesOwn.never (pt_cmpR op_gt (pe_callB call_len_seq (by rfl) T.n_len (by decide +kernel) (pa_cons (pv 3) pa_nil)) pe_int (nomark _))
      (pss_cons (ps_set (i := 4) sc_places_behind.nd rfl (Or.inl rfl) (pe_bm0 PySem.F.plainAttrs_list PySem.F.slot_list_pop PySem.F.type_list_pop mt_pop (pv 3)))
    (pss_one (ps_may (ps_for PassesOwn.never rfl (pi_values (pv 0)) (pg_tup rfl (pgs_cons (pg_name (i := 5) sc_places_behind.nd rfl (Or.inl rfl)) (pgs_cons (pg_name (i := 6) sc_places_behind.nd rfl (Or.inl rfl)) pgs_nil)))
      (pss_one (ps_if (PW.pt (pw_and (pt_cmpR op_eq (pv 5) (pv 4) (nomark _)) (pw_and1 (pt_cmpR op_notIn_seq (pv 6) (pv 2) (by with_unfolding_all rfl)))))
      (pss_cons (ps_expr (pe_bm PySem.F.plainAttrs_list PySem.F.slot_list_append PySem.F.type_list_append mt_append (pv 2) (pa_cons (pv 6) pa_nil)))
    (pss_one (ps_expr (pe_bm PySem.F.plainAttrs_list PySem.F.slot_list_append PySem.F.type_list_append mt_append (pv 3) (pa_cons (pv 6) pa_nil)))))
      pss_nil)))))))
    (pss_one (ps_ret (pv 2)))))), ?_⟩
    refine ⟨by show 0 ≤ sizeLine; decide, fun f nf => ?_⟩
    refine ⟨_, rfl, by show 1 ≤ sizeLine; decide, fun wt nw => ?_⟩
    refine ⟨fun σ Hc => ∃ F x4 x5 x6, σ = [some (.ref d), some (.str p), some (.ref f), some (.ref wt), x4, x5, x6] ∧ Seek es p F [] ∧ Two2 H Hc f wt F [], ?_, ?_⟩
    · refine ⟨fun m σ Hc => ∃ F W x4 x5 x6, σ = [some (.ref d), some (.str p), some (.ref f), some (.ref wt), x4, x5, x6] ∧ Seek es p F W ∧ Two2 H Hc f wt F W ∧ W.length + (es.length - F.length) ≤ 101 ∧ m = W.length + (es.length - F.length), ⟨_, [], [p], none, none, none, rfl, Seek.start es p, ?_, by show 1 + es.length ≤ 101; omega, rfl⟩, ?_⟩
      · have n1 : H wt = none := by
          by_cases e : wt = f
          · rw [e]; exact nf
          · rw [upd_ne e] at nw; exact nw
        have ne : f ≠ wt := fun e => by rw [← e, upd_same] at nw; cases nw
        exact ⟨(same_upd nf).trans (same_upd nw), nf, n1, ne, by rw [upd_ne ne]; exact upd_same, upd_same⟩
      rintro m σ Hc ⟨F, W, x4, x5, x6, rfl, sk, tw, hm1, rfl⟩
      have hcount : ∀ G : List Str, (G.map V.str).length = G.length := fun G => List.length_map _
      refine ⟨_, rfl, wt, _, rfl, .inl (SqL.of tw.hw), _, 0, rfl, rfl, _, rfl, ite2 (fun hpos => ?_) fun hpos => ?_⟩
      · obtain ⟨W', c, rfl⟩ : ∃ W' c, W = W' ++ [c] := by
          rcases List.eq_nil_or_concat W with rfl | ⟨W', c, rfl⟩
          · revert hpos; simp
          · exact ⟨W', c, by rw [List.concat_eq_append]⟩
        have hfF := found_few sk.nd sk.sound
        refine ⟨fun σ H' => ∃ F2 W2 x4 x5 x6, σ = [some (.ref d), some (.str p), some (.ref f), some (.ref wt), x4, x5, x6] ∧ Seek es p F2 W2 ∧ Two2 H H' f wt F2 W2 ∧ W2.length + (es.length - F2.length) < (W' ++ [c]).length + (es.length - F.length), fun σ' H' ⟨F2, W2, y4, y5, y6, e, s2, t2, lt⟩ => ⟨_, lt, F2, W2, y4, y5, y6, e, s2, t2, Nat.le_trans (Nat.le_of_lt lt) hm1, rfl⟩, ?_⟩
        refine ⟨_, rfl, .inl ⟨rfl, _, SqL.of tw.hw⟩, wt, _, .str c, rfl, rfl, tw.hw, by simp, ?_⟩
        have ew : (((W' ++ [c]).map V.str).dropLast) = W'.map V.str := by rw [List.map_append]; exact List.dropLast_concat
        have t1 := tw.setW W'
        rw [← ew] at t1
        rw [ew] at t1 ⊢
        generalize upd Hc wt (.lst (W'.map V.str)) = H1 at t1
        refine may_ask (kvs := kvs) (Rd.on hd t1.same) fun od Hl bk hl o1 b1 b2 => ?_
        have dne : ∀ {a : Addr}, H a = none → a ≠ d := fun {a} ha e => by
          rw [e] at ha
          rcases hd with z | ⟨o, z⟩ <;> rw [ha] at z <;> cases z
        have elen : kvs.length = es.length := hp.length
        have keep : ∀ {H' : Hp}, (∀ a o, a ≠ d → H a = some o → H' a = some o) → H' d = some (.frz od (.dK kvs)) → Same H (bk H') := fun {H'} h1 h2 a o ha => by
          by_cases e : a = d
          · rw [e] at ha ⊢; rw [b2 H' h2]; exact t1.same _ _ ha
          · rw [b1 H' a e]; exact h1 a o e ha
        refine ⟨_, rfl, d, od, kvs, rfl, hl, ?_⟩
        refine for_vals (fun i σ H' => ∃ F2 W2 x5 x6, σ = [some (.ref d), some (.str p), some (.ref f), some (.ref wt), some (.str c), x5, x6] ∧ SeekAt es p c i F2 W2 ∧ H' d = some (.frz od (.dK kvs)) ∧ (∀ a o, a ≠ d → H a = some o → H' a = some o) ∧
          H' f = some (.lst (F2.map V.str)) ∧ H' wt = some (.lst (W2.map V.str)) ∧ W2.length + F.length = W'.length + F2.length) ?_ (fun i σ H' _ ⟨_, _, _, _, _, _, h, _⟩ => h) ?_ ?_
        · exact ⟨F, W', x5, x6, rfl, sk.pop, hl, fun a o ne ha => (o1 a ne).trans (t1.same _ _ ha), (o1 f (dne t1.nf)).trans t1.hf, (o1 wt (dne t1.nw)).trans t1.hw, rfl⟩
        · rintro i kk v σ H' hi ⟨F2, W2, y5, y6, rfl, sa, h1, h2, h3, h4, h5⟩
          have hf2 := found_few sa.nd sa.sound
          have hw2 : W2.length ≤ 300 := by rw [List.length_append] at hm1; omega
          obtain ⟨e, he, ⟨rfl, q, rfl, hq⟩⟩ := L2.paired_get hp hi
          have nq : q ≠ d := fun z => by
            rw [z] at hq
            rcases hd with z | ⟨o, z⟩ <;> rw [hq] at z <;> cases z
          refine ⟨q, _, rfl, SqT.of (h2 q _ nq hq), rfl, _, _, rfl, _, _, rfl, rfl, ?_⟩
          refine ⟨_, rfl, _, rfl, rfl, _, rfl, ?_⟩
          by_cases hc : e.2.1 = c
          · rw [decide_eq_true (by rw [hc])]
            refine iteT ?_
            refine ⟨_, rfl, _, rfl, f, _, rfl, .inl (SqL.of h3), rfl, flat_names F2, _, rfl, ?_⟩
            rw [inV_names, if_pos rfl]
            by_cases hm : e.2.2 ∈ F2
            · rw [decide_eq_true hm]
              exact iteF ⟨F2, W2, _, _, rfl, sa.skip he fun _ => hm, h1, h2, h3, h4, h5⟩
            · rw [decide_eq_false hm]
              refine iteT ?_
              refine ⟨_, rfl, .inl ⟨rfl, _, SqL.of h3⟩, _, rfl, f, _, _, rfl, rfl, h3, small1000 (by rw [hcount]; omega), ?_⟩
              have h4' : (upd H' f (.lst (F2.map V.str ++ [V.str e.2.2]))) wt = some (.lst (W2.map V.str)) := by rw [upd_ne tw.ne.symm]; exact h4
              refine ⟨_, rfl, .inl ⟨rfl, _, SqL.of h4'⟩, _, rfl, wt, _, _, rfl, rfl, h4', small1000 (by rw [hcount]; omega), ?_⟩
              refine ⟨F2 ++ [e.2.2], W2 ++ [e.2.2], _, _, rfl, sa.add he hc hm, ?_, fun a o ne ha => ?_, ?_, ?_, ?_⟩
              · rw [upd_ne (dne tw.nw).symm, upd_ne (dne tw.nf).symm]; exact h1
              · rw [upd_ne (ne_of_none ha tw.nw), upd_ne (ne_of_none ha tw.nf)]; exact h2 a o ne ha
              · rw [upd_ne tw.ne, upd_same, List.map_append]; rfl
              · rw [upd_same, List.map_append]; rfl
              · rw [List.length_append, List.length_append]; show W2.length + 1 + _ = _ + (F2.length + 1); omega
          · rw [decide_eq_false (fun z => hc (V.str.inj z))]
            exact iteF ⟨F2, W2, _, _, rfl, sa.skip he fun z => absurd z hc, h1, h2, h3, h4, h5⟩
        · rintro σ H' ⟨F2, W2, y5, y6, rfl, sa, h1, h2, h3, h4, h5⟩
          rw [elen] at sa
          have hf2 := found_few sa.nd sa.sound
          refine ⟨h1, F2, W2, _, _, _, rfl, sa.back, ⟨keep h2 h1, tw.nf, tw.nw, tw.ne, by rw [b1 _ _ (dne tw.nf)]; exact h3, by rw [b1 _ _ (dne tw.nw)]; exact h4⟩, ?_⟩
          rw [List.length_append]
          show _ < W'.length + 1 + _
          omega
      · have h0 : W = [] := by
          cases W with
          | nil => rfl
          | cons z r => exact absurd (by simp : decide ((0:Int) < ((((z :: r).map V.str).length : Nat) : Int)) = true) hpos
        subst h0
        exact ⟨F, x4, x5, x6, rfl, sk, tw⟩
    · rintro σ Hc ⟨F, x4, x5, x6, rfl, sk, tw⟩
      exact ⟨_, rfl, k f F Hc tw.nf tw.same tw.hf sk.nd sk.done⟩
end

/-! ### useful links -/
/-- the link lies on a way from s to t -/
def Useful (es : List Ent) (s t : Str) (e : Ent) : Prop := (e.2.1 = s ∨ Lead es s e.2.1) ∧ (e.2.2 = t ∨ Lead es e.2.2 t)
open Classical in
noncomputable def usefulB (es : List Ent) (s t : Str) (e : Ent) : Bool := decide (Useful es s t e)
open Classical in
theorem useful_yes {es : List Ent} {s t : Str} {e : Ent} (h : Useful es s t e) : usefulB es s t e = true := by unfold usefulB; exact decide_eq_true h
open Classical in
theorem of_useful {es : List Ent} {s t : Str} {e : Ent} (h : usefulB es s t e = true) : Useful es s t e := by unfold usefulB at h; exact of_decide_eq_true h
section
variable {P : Program} {w : World} {K : PySem.W.Frag} {mg : Str → Option Value} {base : Heap}
def spUseful : Sp := fun vs H Q _ => ∃ (d : Addr) (es : List Ent) (s t : Str), vs = [.ref d, .str s, .str t] ∧ DictAt H d es ∧ es.length ≤ 100 ∧ ∀ (l : Addr) (H' : Hp), H l = none → Same H H' → H' l = some (.lst ((names (es.filter (usefulB es s t))).map V.str)) → Q (.ref l) H'
theorem ok_useful (T : Txt K mg) : FnOk P w K mg base CX0 2 T.f_useful_names T.d_useful_names ["table", "start", "end"] spUseful := by
  have G_places_behind : FnOk P w K mg base CX0 1 T.f_places_behind T.d_places_behind ["table", "first"] spBehind := ok_behind T
  refine T.F_useful_names.ok sc_useful_names (fun vs H Q E h => ?_) (fun cdv A outer s H vs Q E hr h => ?_)
  · obtain ⟨d, es, s, t, rfl, _⟩ := h
    rfl
  · obtain ⟨d, es, s, t, rfl, ⟨kvs, hd, hp⟩, hfew, k⟩ := h
    refine ⟨_, (pss_cons (ps_set (i := 3) sc_useful_names.nd rfl (Or.inr rfl) (pe_lst (pa_cons (pv 1) (StX.pa_star (pe_call G_places_behind (hr.mono (by decide)) rfl T.m_places_behind T.F_places_behind.kp T.b_places_behind .nil pass0 (pa_cons (pv 0) (pa_cons (pv 1) pa_nil))) pa_nil))))
    (pss_one (ps_ret (pe_lock (pe_lc (own := [("name", 4), ("tail", 5), ("head", 6)]) (g := gTup K 2 (gCons (gName 4) (gCons (gTup K 2 (gCons (gName 5) (gCons (gName 6) gNil))) gNil))) rfl sc_useful_names.nd (pi_items (pv 0)) (blkOk_by (N := ["table", "start", "end", "reached", "name", "tail", "head"]) (sc := defScope s_useful_names) (by decide +kernel)) (fun _ _ _ _ _ => (pg_tup rfl (pgs_cons (pg_name (i := 4) sc_useful_names.nd rfl (Or.inl rfl)) (pgs_cons (pg_tup rfl (pgs_cons (pg_name (i := 5) sc_useful_names.nd rfl (Or.inl rfl)) (pgs_cons (pg_name (i := 6) sc_useful_names.nd rfl (Or.inl rfl)) pgs_nil))) pgs_nil)))) (fun _ _ _ _ _ => pts_one (PW.pt (pw_and (pt_cmpR (show OpR _ _ (rIn K false) from op_in_seq) (pv 5) (pv 3) (by with_unfolding_all rfl)) (pw_and1 (pt_cmpR (show OpR _ _ (rIn K false) from op_in_seq) (pv 2) (pe_lst (pa_cons (pv 6) (show PA _ (.Starred _ _ :: _) (StX.tStar K _ _) from (StX.pa_star (pe_call G_places_behind (hr.mono (by decide)) rfl T.m_places_behind T.F_places_behind.kp T.b_places_behind .nil pass0 (pa_cons (pv 0) (pa_cons (pv 6) pa_nil))) pa_nil)))) (by with_unfolding_all rfl)))))) (fun _ _ _ _ _ => (pv 4))))))), ?_⟩
    refine ⟨_, rfl, _, rfl, _, rfl, d, es, s, rfl, ⟨kvs, .inl hd, hp⟩, hfew, fun b F H1 nb s1 hb ndF hF => ?_⟩
    refine ⟨b, _, rfl, .inr (SqL.of hb), ?_⟩
    have hfF := found_few ndF fun q hq => (hF q).mp hq
    refine ⟨Nat.le_of_lt (small1000 (by simp only [List.length_cons, List.length_append, List.length_map, List.length_nil]; omega)), fun L nL => ?_⟩
    rw [List.append_nil]
    have nLH : H L = none := s1.free nL
    have s2 : Same H (upd H1 L (.lst (V.str s :: F.map V.str))) := s1.trans (same_upd nL)
    generalize hH2 : upd H1 L (.lst (V.str s :: F.map V.str)) = H2 at s2
    have hL2 : H2 L = some (.lst (V.str s :: F.map V.str)) := by rw [← hH2]; exact upd_same
    refine ⟨d, _, s2 _ _ hd, trivial, fun od => ?_⟩
    have Ld : L ≠ d := fun z => by rw [z, s2 _ _ hd] at hL2; cases hL2
    refine ⟨_, rfl, d, od, kvs, rfl, upd_same, fun D hD => ?_⟩
    have Dd : D ≠ d := fun z => by rw [z, upd_same] at hD; cases hD
    have nD : H2 D = none := by rw [upd_ne Dd] at hD; exact hD
    refine lc_items (kvs := kvs) (fun i H' => H' d = some (.frz od (.dK kvs)) ∧ (∀ c o, c ≠ d → H2 c = some o → H' c = some o) ∧ H' D = some (.lst ((names ((es.take i).filter (usefulB es s t))).map V.str))) ⟨?_, ?_, upd_same⟩ (fun i H' _ h => h.1) ?_ ?_
    · rw [upd_ne Dd.symm]; exact upd_same
    · intro c o cd hc
      rw [upd_ne (ne_of_none hc nD), upd_ne cd]; exact hc
    · rintro i kk v U H' hi ⟨h1, h2, h3⟩ nU
      obtain ⟨e, he, ⟨rfl, q, rfl, hq⟩⟩ := L2.paired_get hp hi
      have nq : q ≠ d := fun z => by rw [z, hd] at hq; cases hq
      have hU : Same H' (upd H' U (.tup [kV (.inr e.1), .ref q])) := same_upd nU
      have h2' : ∀ c o, c ≠ d → H c = some o → (upd H' U (.tup [kV (.inr e.1), .ref q])) c = some o := fun c o cd hc => hU _ _ (h2 c o cd (s2 _ _ hc))
      have h1' := hU _ _ h1
      refine ⟨U, _, rfl, SqT.of upd_same, rfl, _, _, rfl, _, _, rfl, q, _, rfl, SqT.of (h2' q _ nq hq), rfl, _, _, rfl, _, _, rfl, rfl, rfl, rfl, ?_⟩
      generalize upd H' U (.tup [kV (.inr e.1), .ref q]) = H3 at hU h1' h2' ⊢
      have tk := take_more he
      have hD3 : H3 D = some (.lst ((names ((es.take i).filter (usefulB es s t))).map V.str)) := hU _ _ h3
      have no : ∀ {H4 : Hp}, Same H3 H4 → ¬ Useful es s t e → H4 d = some (.frz od (.dK kvs)) ∧ (∀ c o, c ≠ d → H2 c = some o → H4 c = some o) ∧ H4 D = some (.lst ((names ((es.take (i + 1)).filter (usefulB es s t))).map V.str)) := fun {H4} sm hn => by
        refine ⟨sm _ _ h1', fun c o cd hc => sm _ _ (hU _ _ (h2 c o cd hc)), ?_⟩
        rw [tk, List.filter_append, show [e].filter (usefulB es s t) = [] from List.filter_cons_of_neg (fun z => hn (of_useful z)), List.append_nil]
        exact sm _ _ hD3
      have hfew2 : (names ((es.take i).filter (usefulB es s t))).length < 1000 := by
        unfold names
        rw [List.length_map]
        have a := List.length_filter_le (usefulB es s t) (es.take i)
        rw [List.length_take] at a
        omega
      refine ⟨_, rfl, _, rfl, L, _, rfl, .inl (SqL.of (hU _ _ (h2 L _ Ld hL2))), rfl, (flat_names (s :: F)), _, rfl, ?_⟩
      rw [if_neg (by decide), show inV (.str e.2.1) (V.str s :: F.map V.str) = decide (e.2.1 ∈ s :: F) from inV_names _ (s :: F)]
      by_cases ha : e.2.1 ∈ s :: F
      · rw [decide_eq_true ha]
        have ha' : e.2.1 = s ∨ Lead es s e.2.1 := (List.mem_cons.mp ha).imp id (hF _).mp
        refine iteT ?_
        refine ⟨_, rfl, _, rfl, _, rfl, _, rfl, d, es, e.2.2, rfl, ⟨kvs, .inr ⟨od, h1'⟩, paired_on (fun _ _ z => z.on fun c o hc => h2' c _ (fun z => by rw [z, hd] at hc; cases hc) hc) hp⟩, hfew, fun b2 F2 H4 nb2 s4 hb2 nd2 hF2 => ?_⟩
        have hf2 := found_few nd2 fun q hq => (hF2 q).mp hq
        refine ⟨b2, _, rfl, .inr (SqL.of hb2), Nat.le_of_lt (small1000 (by simp only [List.length_cons, List.length_append, List.length_map, List.length_nil]; omega)), fun L2 nL2 => ?_⟩
        rw [List.append_nil]
        refine ⟨L2, _, rfl, .inl (SqL.of upd_same), rfl, (flat_names (e.2.2 :: F2)), _, rfl, ?_⟩
        have s5 := s4.trans (same_upd (o := .lst (V.str e.2.2 :: F2.map V.str)) nL2)
        rw [if_neg (by decide), show inV (.str t) (V.str e.2.2 :: F2.map V.str) = decide (t ∈ e.2.2 :: F2) from inV_names _ (e.2.2 :: F2)]
        by_cases hb : t ∈ e.2.2 :: F2
        · rw [decide_eq_true hb]
          have hb' : e.2.2 = t ∨ Lead es e.2.2 t := (List.mem_cons.mp hb).imp Eq.symm (hF2 _).mp
          refine iteT ⟨_, rfl, _, s5 _ _ hD3, small1000 (by rw [List.length_map]; exact Nat.le_of_lt hfew2), ?_, fun c o cd hc => ?_, ?_⟩
          · rw [upd_ne Dd.symm]; exact s5 _ _ h1'
          · rw [upd_ne (ne_of_none hc nD)]; exact s5 _ _ (hU _ _ (h2 c o cd hc))
          · rw [upd_same, tk, List.filter_append, show [e].filter (usefulB es s t) = [e] from List.filter_cons_of_pos (useful_yes ⟨ha', hb'⟩)]
            unfold names
            rw [List.map_append, List.map_append]
            rfl
        · rw [decide_eq_false hb]
          exact iteF (no s5 fun z => hb (List.mem_cons.mpr (z.2.imp Eq.symm (hF2 _).mpr)))
      · rw [decide_eq_false ha]
        exact iteF (no (Same.refl _) fun z => ha (List.mem_cons.mpr (z.1.imp id (hF _).mpr)))
    · rintro H' ⟨h1, h2, h3⟩
      rw [show es.take kvs.length = es from by rw [hp.length]; exact List.take_length] at h3
      refine ⟨h1, k D _ (s2.free nD) (fun c o hc => ?_) (by rw [upd_ne Dd]; exact h3)⟩
      by_cases e : c = d
      · rw [e] at hc ⊢; rw [upd_same, ← hd, hc]
      · rw [upd_ne e]; exact h2 c o e (s2 _ _ hc)
end

/-! ### the places in their order -/
def innOf (s t : Str) (qs : List Str) : List Str := qs.filter fun q => !(decide (q = s) || decide (q = t))
def endsOf (es : List Ent) : List Str := es.flatMap fun e => [e.2.1, e.2.2]
/-- the places of links from s to t in the order in which they are told -/
def Places (es : List Ent) (s t : Str) (ps : List Str) : Prop := ∃ ys : List Str, ps = s :: (ys ++ [t]) ∧ ys.Nodup ∧ PyProof.Rows.sortedS ys = true ∧ ∀ q, q ∈ ys ↔ q ∈ endsOf es ∧ q ≠ s ∧ q ≠ t
theorem mem_inn {s t : Str} {qs : List Str} {q : Str} : q ∈ innOf s t qs ↔ q ∈ qs ∧ q ≠ s ∧ q ≠ t := by
  unfold innOf
  rw [List.mem_filter]
  simp
theorem inn_len (s t : Str) (qs : List Str) : (innOf s t qs).length ≤ qs.length := List.length_filter_le _ _
theorem inn_no {s t z : Str} (qs : List Str) (h : z ∈ [s, t]) : innOf s t (qs ++ [z]) = innOf s t qs := by
  unfold innOf
  rw [List.filter_append, List.filter_cons_of_neg, List.filter_nil, List.append_nil]
  rcases List.mem_cons.mp h with h | h
  · simp [h]
  · simp [List.mem_singleton.mp h]
theorem inn_yes {s t z : Str} (qs : List Str) (n1 : z ≠ s) (n2 : z ≠ t) : innOf s t (qs ++ [z]) = innOf s t qs ++ [z] := by
  unfold innOf
  rw [List.filter_append, List.filter_cons_of_pos, List.filter_nil]
  simp [n1, n2]
theorem ends_len (es : List Ent) : (endsOf es).length = 2 * es.length := by
  induction es with
  | nil => rfl
  | cons e r ih =>
    show (endsOf (e :: r)).length = 2 * (r.length + 1)
    unfold endsOf at ih ⊢
    rw [List.flatMap_cons, List.length_append, ih]
    show 2 + _ = _
    omega
section
variable {P : Program} {w : World} {K : PySem.W.Frag} {mg : Str → Option Value} {base : Heap}
def spPlaces : Sp := fun vs H Q _ => ∃ (d : Addr) (es : List Ent) (s t : Str), vs = [.ref d, .str s, .str t] ∧ DictAt H d es ∧ es.length ≤ 20 ∧ ∀ (l : Addr) (ps : List Str) (H' : Hp), H l = none → Same H H' → H' l = some (.tup (ps.map V.str)) → Places es s t ps → Q (.ref l) H'
theorem ok_places (T : Txt K mg) : FnOk P w K mg base CX0 1 T.f_ordered_places T.d_ordered_places ["table", "start", "end"] spPlaces := by
  refine T.F_ordered_places.ok sc_ordered_places (fun vs H Q E h => ?_) (fun cdv A outer s H vs Q E hr h => ?_)
  · obtain ⟨d, es, s, t, rfl, _⟩ := h
    rfl
  · obtain ⟨d, es, s, t, rfl, ⟨kvs, hd, hp⟩, hfew, k⟩ := h
    refine ⟨_, (pss_cons (ps_lock (ps_setLc2 (i := 3) (own := [("ends", 4), ("place", 5)]) (vs1 := [5]) (g := gName 4) (g1 := gName 5) (tt := tYes) rfl sc_ordered_places.nd rfl rfl (sw_true rfl rfl rfl (by decide +kernel)) (pi_values (pv 0)) (blkOk_by (N := ["table", "start", "end", "inner", "ends", "place"]) (sc := defScope s_ordered_places) (by decide +kernel)) (by decide) (fun _ _ _ _ _ => (pg_name (i := 4) sc_ordered_places.nd rfl (Or.inl rfl))) (fun _ _ _ _ _ => pts_nil) (fun _ _ _ _ _ => (show PI _ _ _ (iTup K _) from (pi_tup (pv 4)))) (fun _ _ _ _ _ => (pg_name (i := 5) sc_ordered_places.nd rfl (Or.inl rfl))) (fun _ _ _ _ _ => pts_one (pt_cmpR (show OpR _ _ (rIn K true) from op_notIn_seq) (pv 5) (pe_tup (pa_cons (pv 1) (pa_cons (pv 2) pa_nil))) (by with_unfolding_all rfl))) (fun _ _ _ _ _ => (pv 5))))
    (pss_one (ps_ret (pe_tup (pa_cons (pv 1) (StX.pa_star (pe_callB (cr_sortTx rfl) (by rfl) T.n_sorted (by decide +kernel) (pa_cons (pe_callTy (cr_setTx rfl) (by rfl) T.n_set (by decide +kernel) (pa_cons (pv 3) pa_nil)) pa_nil)) (pa_cons (pv 2) pa_nil))))))), ?_⟩
    refine ⟨d, _, hd, trivial, fun od => ?_⟩
    refine ⟨_, rfl, d, od, kvs, rfl, upd_same, fun D hD => ?_⟩
    have Dd : D ≠ d := fun z => by rw [z, upd_same] at hD; cases hD
    have nD : H D = none := by rw [upd_ne Dd] at hD; exact hD
    refine lc2_vals (kvs := kvs) (fun i H' => H' d = some (.frz od (.dK kvs)) ∧ (∀ c o, c ≠ d → H c = some o → H' c = some o) ∧ H' D = some (.lst ((innOf s t (endsOf (es.take i))).map V.str))) ⟨?_, ?_, upd_same⟩ (fun i H' _ h => h.1) ?_ ?_
    · rw [upd_ne Dd.symm]; exact upd_same
    · intro c o cd hc
      rw [upd_ne (ne_of_none hc nD), upd_ne cd]; exact hc
    · rintro i kk v H' hi ⟨h1, h2, h3⟩
      obtain ⟨e, he, ⟨rfl, q, rfl, hq⟩⟩ := L2.paired_get hp hi
      have nq : q ≠ d := fun z => by rw [z, hd] at hq; cases hq
      have tk : endsOf (es.take (i + 1)) = endsOf (es.take i) ++ [e.2.1, e.2.2] := by
        rw [take_more he]
        unfold endsOf
        rw [List.flatMap_append, List.flatMap_singleton]
      have hlt := (List.getElem?_eq_some_iff.mp he).1
      refine ⟨rfl, _, rfl, q, rfl, ⟨_, SqT.of (h2 q _ nq hq)⟩, ?_⟩
      refine lc2_tup (K := K) (a := q) (xs := [V.str e.2.1, .str e.2.2]) (fun j H' => H' d = some (.frz od (.dK kvs)) ∧ (∀ c o, c ≠ d → H c = some o → H' c = some o) ∧ H' D = some (.lst ((innOf s t (endsOf (es.take i) ++ [e.2.1, e.2.2].take j)).map V.str))) ⟨h1, h2, by rw [List.take_zero, List.append_nil]; exact h3⟩ (fun j H' _ h => SqT.of (h.2.1 q _ nq hq)) ?_ ?_
      · rintro j x H' hj ⟨h1, h2, h3⟩
        obtain ⟨z, hz, rfl⟩ : ∃ z, [e.2.1, e.2.2][j]? = some z ∧ x = V.str z := by
          have hlt := (List.getElem?_eq_some_iff.mp hj).1
          match j, hlt, hj with
          | 0, _, hj => exact ⟨_, rfl, (Option.some.inj hj).symm⟩
          | 1, _, hj => exact ⟨_, rfl, (Option.some.inj hj).symm⟩
        have tz := take_more hz
        have sml : (innOf s t (endsOf (es.take i) ++ [e.2.1, e.2.2].take j)).length ≤ 100 := by
          have a := inn_len s t (endsOf (es.take i) ++ [e.2.1, e.2.2].take j)
          rw [List.length_append, ends_len, List.length_take, List.length_take] at a
          have : [e.2.1, e.2.2].length = 2 := rfl
          omega
        refine ⟨rfl, _, rfl, _, rfl, _, rfl, by show 2 ≤ sizeLine; decide, fun U nU => ?_⟩
        refine ⟨U, _, rfl, .inr (SqT.of upd_same), rfl, rfl, _, rfl, ?_⟩
        rw [if_pos rfl, show inV (.str z) [V.str s, .str t] = decide (z ∈ [s, t]) from inV_names z [s, t], tz]
        have sU : Same H' (upd H' U (.tup [V.str s, .str t])) := same_upd nU
        by_cases hz2 : z ∈ [s, t]
        · rw [decide_eq_true hz2]
          refine iteF ⟨sU _ _ h1, fun c o cd hc => sU _ _ (h2 c o cd hc), ?_⟩
          rw [← List.append_assoc, inn_no _ hz2]
          exact sU _ _ h3
        · rw [decide_eq_false hz2]
          have n1 : z ≠ s := fun h => hz2 (h ▸ List.mem_cons_self)
          have n2 : z ≠ t := fun h => hz2 (h ▸ List.mem_cons_of_mem _ List.mem_cons_self)
          refine iteT ⟨_, rfl, _, sU _ _ h3, small1000 (by rw [List.length_map]; omega), ?_, fun c o cd hc => ?_, ?_⟩
          · rw [upd_ne Dd.symm]; exact sU _ _ h1
          · rw [upd_ne (ne_of_none hc nD)]; exact sU _ _ (h2 c o cd hc)
          · rw [upd_same]
            rw [← List.append_assoc, inn_yes _ n1 n2, List.map_append]
            rfl
      · rintro H' ⟨h1, h2, h3⟩
        exact ⟨h1, h2, by rw [tk]; exact h3⟩
    · rintro H' ⟨h1, h2, h3⟩
      rw [show es.take kvs.length = es from by rw [hp.length]; exact List.take_length] at h3
      have s1 : Same H (upd H' d (.dK kvs)) := fun c o hc => by
        by_cases e : c = d
        · rw [e] at hc ⊢; rw [upd_same, ← hd, hc]
        · rw [upd_ne e]; exact h2 c o e hc
      refine ⟨h1, ?_⟩
      have h3' : (upd H' d (.dK kvs)) D = some (.lst ((innOf s t (endsOf es)).map V.str)) := by rw [upd_ne Dd]; exact h3
      generalize upd H' d (.dK kvs) = H1 at s1 h3' ⊢
      have sml := inn_len s t (endsOf es)
      rw [ends_len] at sml
      refine ⟨_, rfl, _, rfl, D, _, rfl, SqL.of h3', by omega, fun S nS => ?_⟩
      refine ⟨S, _, rfl, upd_same, by omega, fun ys L nd hm so hle nL => ?_⟩
      have s2 := (s1.trans (same_upd (o := TxO P w S (innOf s t (endsOf es))) nS)).trans (same_upd (o := .lst (ys.map V.str)) nL)
      refine ⟨L, _, rfl, .inr (SqL.of upd_same), _, rfl, ?_⟩
      refine ⟨Nat.le_of_lt (small1000 (by simp only [List.length_cons, List.length_append, List.length_map, List.length_nil]; omega)), fun p np => ?_⟩
      refine k p (s :: (ys ++ [t])) _ (s2.free np) (s2.trans (same_upd np)) (by rw [upd_same, List.map_cons, List.map_append]; rfl) ⟨ys, rfl, nd, so, fun q => ?_⟩
      rw [hm q, mem_inn]
end

/-! ### the checks of a network's links -/
/-- the thing at q tells a link -/
def RowAt (K : PySem.W.Frag) (H : Hp) (q : Addr) (e : Ent) : Prop := SqT K H q [.str e.1, .str e.2.1, .str e.2.2] ∨ SqL K H q [.str e.1, .str e.2.1, .str e.2.2]
def Rows (K : PySem.W.Frag) (H : Hp) (a : Addr) (es : List Ent) : Prop := ∃ qs : List Addr, (SqL K H a (qs.map V.ref) ∨ SqT K H a (qs.map V.ref)) ∧ Paired (RowAt K H) qs es
theorem RowAt.on {K : PySem.W.Frag} {H H' : Hp} {q : Addr} {e : Ent} (h : RowAt K H q e) (s : Same H H') : RowAt K H' q e := h.elim (fun z => .inl (sqT_on s z)) fun z => .inr (s.seq z)
theorem Rows.on {K : PySem.W.Frag} {H H' : Hp} {a : Addr} {es : List Ent} (h : Rows K H a es) (s : Same H H') : Rows K H' a es := let ⟨qs, a, b⟩ := h; ⟨qs, a.elim (fun z => .inl (s.seq z)) (fun z => .inr (sqT_on s z)), paired_on (fun _ _ e => e.on s) b⟩
theorem seq_ask {K : PySem.W.Frag} {H : Hp} {a : Addr} {xs : List V} {n : Nat} {t : TGs} {σ : L2.St} {Q : L2.St → Hp → Prop} (h : SqT K H a xs ∨ SqL K H a xs) (hn : xs.length = n) (k : t xs σ H Q) : gSeq K n t (.ref a) σ H Q :=
  h.elim (fun z => .inl ⟨a, xs, rfl, z, hn, k⟩) fun z => .inr ⟨a, xs, rfl, z, hn, k⟩
theorem drop_at {α : Type} {l : List α} {i : Nat} {x : α} (h : l[i]? = some x) : l.drop i = x :: l.drop (i + 1) := by
  obtain ⟨hl, e⟩ := List.getElem?_eq_some_iff.mp h
  rw [List.drop_eq_getElem_cons hl, e]
/-- the error that the names of links are due: no name (true), a name twice (false) -/
def nmErr : List Str → List Ent → Option (Bool × Str)
  | _, [] => none
  | ks, e :: r => if vn e.1 = true then (if e.1 ∈ ks then some (false, e.1) else (bad [e.2.1, e.2.2]).elim (nmErr (ks ++ [e.1]) r) fun z => some (true, z)) else some (true, e.1)
def WnE (e : Ent) : Prop := Wn e.1 ∧ Wn e.2.1 ∧ Wn e.2.2
def flagKs (ns : List Str) : List (Key × V) := ns.map fun n => (.inr n, .bl true)
theorem flag_val (ns : List Str) (n : Str) : (valV (flagKs ns) (.inr n : Key)).isSome = decide (n ∈ ns) := by
  induction ns with
  | nil => rfl
  | cons m r ih =>
    show (valV ((.inr m, .bl true) :: flagKs r) (.inr n : Key)).isSome = _
    by_cases h : m = n
    · rw [valV_pos (by rw [h])]
      simp [h]
    · have h2 : ¬ n = m := fun z => h z.symm
      rw [valV_neg (fun z => h (Sum.inr.inj z)), ih]
      simp [h2]
theorem flag_put {ns : List Str} {n : Str} (h : n ∉ ns) : putK (flagKs ns) (.inr n : Key) (.bl true) = flagKs (ns ++ [n]) := by
  have e := flag_val ns n
  rw [decide_eq_false h] at e
  unfold putK
  rw [valV_any, e, if_neg Bool.false_ne_true]
  unfold flagKs
  rw [List.map_append]
  rfl
section
variable {P : Program} {w : World} {K : PySem.W.Frag} {mg : Str → Option Value} {base : Heap}
def spNames (K : PySem.W.Frag) (DB DD : Addr) : Sp := fun vs H Q E => ∃ (a : Addr) (es : List Ent), vs = [.ref a] ∧ Rows K H a es ∧ es.length ≤ 100 ∧ (∀ e ∈ es, WnE e) ∧ (∀ z, nmErr [] es = some (true, z) → Raised H "name" (.str z) DB E) ∧
  (∀ z, nmErr [] es = some (false, z) → Raised H "name" (.str z) DD E) ∧ (nmErr [] es = none → ∀ H', Same H H' → Q .non H')
theorem ok_names (T : Txt K mg) : FnOk P w K mg base (L2.CX P w) 3 T.f_check_names T.d_check_names ["links"] (spNames K T.f_BadName T.f_DuplicateName) := by
  have G_BadName_init : FnOk P w K mg base CX0 1 T.f_BadName_init T.d_BadName_init ["self", "name"] (spErr "name" T.f_BadName) := ok_eBadName T
  have G_DuplicateName_init : FnOk P w K mg base CX0 1 T.f_DuplicateName_init T.d_DuplicateName_init ["self", "name"] (spErr "name" T.f_DuplicateName) := ok_eDuplicateName T
  have G_valid_name : FnOk P w K mg base CX0 1 T.f_valid_name T.d_valid_name ["text"] spName := ok_valid T
  refine T.F_check_names.okX sc_check_names (fun vs H Q E h => ?_) (fun cdv A outer s H vs Q E hr h => ?_)
  · obtain ⟨a, es, rfl, _⟩ := h
    rfl
  · obtain ⟨a, es, rfl, ⟨qs, hq, hp⟩, hfew, hw, k1, k2, k3⟩ := h
    refine ⟨_, (pss_cons (ps_set (i := 1) sc_check_names.nd rfl (Or.inl rfl) pe_dnewK)
    (pss_one (ps_for (passes_of rfl) rfl (pi_seq (pv 0)) (pg_seq rfl (pgs_cons (pg_name (i := 2) sc_check_names.nd rfl (Or.inl rfl)) (pgs_cons (pg_name (i := 3) sc_check_names.nd rfl (Or.inl rfl)) (pgs_cons (pg_name (i := 4) sc_check_names.nd rfl (Or.inl rfl)) pgs_nil))))
      (pss_cons (ps_if (pt_not (pt_val (pe_call G_valid_name (hr.mono (by decide)) rfl T.m_valid_name T.F_valid_name.kp T.b_valid_name .nil pass0 (pa_cons (pv 2) pa_nil))))
      (pss_one (ps_raise rfl (takes_of rfl rfl rfl rfl) (pmk_oex T.ox_BadName T.ix_BadName T.tx_BadName G_BadName_init (hr.mono (by decide)) T.b_BadName_init .nil pass0 rfl T.m_BadName (pa_cons (pv 2) pa_nil))))
      pss_nil)
    (pss_cons (ps_if (pt_cmp (pc_din (hu_of hr) (pv 2) (pv 1)))
      (pss_one (ps_raise rfl (takes_of rfl rfl rfl rfl) (pmk_oex T.ox_DuplicateName T.ix_DuplicateName T.tx_DuplicateName G_DuplicateName_init (hr.mono (by decide)) T.b_DuplicateName_init .nil pass0 rfl T.m_DuplicateName (pa_cons (pv 2) pa_nil))))
      pss_nil)
    (C8.pss_cut (ps_for (passes_of rfl) rfl (pi_tup (pe_tup (pa_cons (pv 3) (pa_cons (pv 4) pa_nil)))) (pg_name (i := 5) sc_check_names.nd rfl (Or.inl rfl))
      (pss_one (ps_if (pt_not (pt_val (pe_call G_valid_name (hr.mono (by decide)) rfl T.m_valid_name T.F_valid_name.kp T.b_valid_name .nil pass0 (pa_cons (pv 5) pa_nil))))
      (pss_one (ps_raise rfl (takes_of rfl rfl rfl rfl) (pmk_oex T.ox_BadName T.ix_BadName T.tx_BadName G_BadName_init (hr.mono (by decide)) T.b_BadName_init .nil pass0 rfl T.m_BadName (pa_cons (pv 5) pa_nil))))
      pss_nil)))
    (pss_one (ps_asg pe_bl (pg_sub (pv 1) (pv 2) (set_dict (hu_of hr))))))))))), ?_⟩
    refine fun kn nk => ?_
    have al : ∀ {H' : Hp}, Same H H' → (SqL K H a (qs.map V.ref) → SqL K H' a (qs.map V.ref)) ∧ (SqT K H a (qs.map V.ref) → SqT K H' a (qs.map V.ref)) := fun s => ⟨s.seq, fun z => sqT_on s z⟩
    refine ⟨_, rfl, a, rfl, ?_⟩
    refine for_seq hq (xs := qs.map V.ref) (fun i σ H' => ∃ x2 x3 x4 x5, σ = [some (.ref a), some (.ref kn), x2, x3, x4, x5] ∧ Same H H' ∧ H' kn = some (.dK (flagKs (names (es.take i)))) ∧ nmErr [] es = nmErr (names (es.take i)) (es.drop i)) ⟨_, _, _, _, rfl, same_upd nk, upd_same, rfl⟩ (fun i σ H' ⟨_, _, _, _, _, h, _⟩ => al h) ?_ ?_
    · rintro i x σ H' hi ⟨x2, x3, x4, x5, rfl, s1, hk, he⟩
      obtain ⟨q, hq, rfl⟩ : ∃ q, qs[i]? = some q ∧ x = V.ref q := by
        rw [List.getElem?_map] at hi
        cases e : qs[i]? with
        | none => rw [e] at hi; cases hi
        | some q => rw [e] at hi; exact ⟨q, rfl, (Option.some.inj hi).symm⟩
      obtain ⟨e, hei, hr⟩ := L2.paired_get hp hq
      rw [drop_at hei] at he
      refine seq_ask (hr.on s1) rfl ⟨_, _, rfl, _, _, rfl, _, _, rfl, rfl, ?_⟩
      have we := hw e (List.mem_of_getElem? hei)
      refine ⟨_, rfl, e.1, rfl, we.1.1, we.1.2, fun H2 s2 => ?_⟩
      refine ⟨vn e.1, rfl, ?_⟩
      have s02 : Same H H2 := s1.trans s2
      by_cases hv : vn e.1 = true
      · rw [hv]
        refine iteF ?_
        refine ⟨_, rfl, _, rfl, kn, _, rfl, DGet.k (k := .inr e.1) (s2 _ _ hk), ?_⟩
        rw [flag_val]
        by_cases hm : e.1 ∈ names (es.take i)
        · rw [decide_eq_true hm]
          refine ⟨_, rfl, iteT ?_⟩
          refine ⟨_, rfl, (by show 1 ≤ 1000; decide), fun a na => ?_⟩
          refine ⟨a, .str e.1, rfl, upd_same, fun d H' nd ne eq => ⟨rfl, d, [("name", .str e.1)], ?_⟩⟩
          exact raise_asks na ((k2 e.1 (by rw [he]; simp [nmErr, hv, hm])).on s02) d H' nd ne eq
        · rw [decide_eq_false hm]
          refine ⟨_, rfl, iteF ?_⟩
          refine ⟨fun σ H' => ∃ x5, σ = [some (.ref a), some (.ref kn), some (.str e.1), some (.str e.2.1), some (.str e.2.2), x5] ∧ Same H2 H' ∧ bad [e.2.1, e.2.2] = none, ?_, ?_⟩
          · refine ⟨_, rfl, _, rfl, by show 2 ≤ sizeLine; decide, fun tu ntu => ?_⟩
            refine ⟨tu, rfl, ⟨_, SqT.of upd_same⟩, ?_⟩
            refine for_tup (K := K) (a := tu) (xs := [V.str e.2.1, V.str e.2.2]) (fun i σ H' => ∃ x5, σ = [some (.ref a), some (.ref kn), some (.str e.1), some (.str e.2.1), some (.str e.2.2), x5] ∧ Same (upd H2 tu (.tup [V.str e.2.1, .str e.2.2])) H' ∧ ∀ z ∈ [e.2.1, e.2.2].take i, vn z = true) ⟨_, rfl, Same.refl _, fun z hz => by simp at hz⟩ (fun i σ H' _ ⟨_, _, s, _⟩ => SqT.of (s _ _ upd_same)) ?_ ?_
            · rintro i v σ H' hi ⟨x5, rfl, s3, hz⟩
              obtain ⟨z, rfl, ez, wz⟩ : ∃ z, v = .str z ∧ [e.2.1, e.2.2][i]? = some z ∧ Wn z := by
                have hlt := (List.getElem?_eq_some_iff.mp hi).1
                match i, hlt, hi with
                | 0, _, hi => exact ⟨_, (Option.some.inj hi).symm, rfl, we.2.1⟩
                | 1, _, hi => exact ⟨_, (Option.some.inj hi).symm, rfl, we.2.2⟩
              refine ⟨_, rfl, z, rfl, wz.1, wz.2, fun H4 s4 => ?_⟩
              refine ⟨vn z, rfl, ?_⟩
              have s04 : Same H H4 := ((s02.trans (same_upd ntu)).trans s3).trans s4
              by_cases hvz : vn z = true
              · rw [hvz]
                refine iteF ⟨_, rfl, s3.trans s4, fun q hq => ?_⟩
                rw [take_more ez] at hq
                rcases List.mem_append.mp hq with hq | hq
                · exact hz q hq
                · rw [List.mem_singleton.mp hq]; exact hvz
              · rw [Bool.eq_false_iff.mpr hvz]
                refine iteT ?_
                refine ⟨_, rfl, (by show 1 ≤ 1000; decide), fun a na => ?_⟩
                refine ⟨a, .str z, rfl, upd_same, fun d H' nd ne eq => ⟨rfl, d, [("name", .str z)], ?_⟩⟩
                exact raise_asks na ((k1 z (by rw [he]; simp [nmErr, hv, hm, bad_at hz ez hvz])).on s04) d H' nd ne eq
            · rintro σ H' ⟨x5, rfl, s3, hz⟩
              refine ⟨x5, rfl, (same_upd ntu).trans s3, ?_⟩
              unfold bad
              rw [List.find?_eq_none]
              intro z hmz
              rw [hz z hmz]
              decide
          · rintro σ H3 ⟨x5, rfl, s3, hb⟩
            have s03 := s02.trans s3
            have hk3 := s3 _ _ (s2 _ _ hk)
            have nkH : H kn = none := nk
            refine ⟨_, rfl, _, rfl, kn, _, rfl, DPut.k (k := .inr e.1) hk3 (small1000 (by unfold flagKs names; rw [List.length_map, List.length_map, List.length_take]; omega)), ?_⟩
            refine ⟨_, _, _, _, rfl, same_mut s03 nkH, ?_, ?_⟩
            · rw [upd_same, flag_put hm, names_take hei]
            · rw [he, names_take hei]
              simp [nmErr, hv, hm, hb]
      · rw [Bool.eq_false_iff.mpr hv]
        refine iteT ?_
        refine ⟨_, rfl, (by show 1 ≤ 1000; decide), fun a na => ?_⟩
        refine ⟨a, .str e.1, rfl, upd_same, fun d H' nd ne eq => ⟨rfl, d, [("name", .str e.1)], ?_⟩⟩
        exact raise_asks na ((k1 e.1 (by rw [he]; simp [nmErr, hv])).on s02) d H' nd ne eq
    · rintro σ H' ⟨x2, x3, x4, x5, rfl, s1, hk, he⟩
      rw [List.length_map, hp.length, List.take_length, List.drop_length] at he
      exact k3 he H' s1
end

/-! ### no round, no useless link -/
open Classical in
noncomputable def roundB (es : List Ent) (e : Ent) : Bool := decide (Lead es e.2.2 e.2.1)
open Classical in
theorem round_yes {es : List Ent} {e : Ent} (h : Lead es e.2.2 e.2.1) : roundB es e = true := by unfold roundB; exact decide_eq_true h
open Classical in
theorem of_round {es : List Ent} {e : Ent} (h : roundB es e = true) : Lead es e.2.2 e.2.1 := by unfold roundB at h; exact of_decide_eq_true h
noncomputable def rdErr (es : List Ent) : Option Str := (es.find? (roundB es)).map (·.1)
noncomputable def useErr (es : List Ent) (s t : Str) : Option Str := (es.find? fun e => !usefulB es s t e).map (·.1)
/-- an exception's own dict, new; the thing at a may have changed -/
def RaisedX (a : Addr) (H : Hp) (nm : Str) (v : V) (D : Addr) (E : XK) : Prop := ∀ d H', H d = none → (∀ c o, c ≠ a → H c = some o → H' c = some o) → H' d = some (.xd [(nm, v)]) → E (.ref D) (some d) H'
theorem Raised.but {a : Addr} {H0 H : Hp} {nm : Str} {v : V} {D : Addr} {E : XK} (r : Raised H0 nm v D E) (s : Same H0 H) (n : H0 a = none) : RaisedX a H nm v D E := fun d H' nd k e => r d H' (s.free nd) (fun c o hc => k c o (ne_of_none hc n) (s _ _ hc)) e
theorem raiseX_asks {a0 : Addr} {H H2 : Hp} {nm : Str} {v : V} {D a : Addr} {E : XK} (na : H2 a = none) (k : RaisedX a0 H nm v D E) (kp : ∀ c o, c ≠ a0 → H c = some o → H2 c = some o) (ka : H2 a0 ≠ none) (d : Addr) (H' : Hp) (nd : (upd H2 a (exo a D none)) d = none) (ne : d ≠ a) (e : H' = upd (upd (upd H2 a (exo a D none)) d (exd d [(nm, v)])) a (exo a D (some d))) :
    H' a = some (exo a D (some d)) ∧ H' d = some (exd d [(nm, v)]) ∧ H2 d = none ∧ E (.ref D) (some d) (upd (del H' a) d (.xd [(nm, v)])) := by
  have nd' : H2 d = none := by rw [upd_ne ne] at nd; exact nd
  have nH : ∀ {x : Addr}, H2 x = none → H x = none := fun {x} hx => by
    cases q : H x with
    | none => rfl
    | some o =>
      by_cases e0 : x = a0
      · rw [e0] at hx; exact absurd hx ka
      · rw [kp _ _ e0 q] at hx; cases hx
  refine ⟨by rw [e]; exact upd_same, by rw [e, upd_ne ne]; exact upd_same, nd', k d _ (nH nd') (fun b o ba hb => ?_) upd_same⟩
  have hb2 := kp b o ba hb
  have n1 : b ≠ d := ne_of_none hb2 nd'
  have n2 : b ≠ a := ne_of_none hb2 na
  rw [upd_ne n1, del_ne n2, e, upd_ne n2, upd_ne n1, upd_ne n2]
  exact hb2
theorem find_at {α : Type} {p : α → Bool} : ∀ {l : List α} {i : Nat} {x : α}, (∀ y ∈ l.take i, p y = false) → l[i]? = some x → p x = true → l.find? p = some x
  | [], i, x, _, h, _ => by simp at h
  | y :: l, 0, x, _, h, hp => by
    obtain rfl : y = x := Option.some.inj h
    exact List.find?_cons_of_pos hp
  | y :: l, i + 1, x, hn, h, hp => by
    rw [List.find?_cons_of_neg (by rw [hn y List.mem_cons_self]; decide)]
    exact find_at (fun z hz => hn z (List.mem_cons_of_mem _ hz)) h hp
section
variable {P : Program} {w : World} {K : PySem.W.Frag} {mg : Str → Option Value} {base : Heap}
def spRounds (DR : Addr) : Sp := fun vs H Q E => ∃ (d : Addr) (es : List Ent), vs = [.ref d] ∧ DictAt H d es ∧ es.length ≤ 100 ∧ (∀ z, rdErr es = some z → RaisedX d H "name" (.str z) DR E) ∧ (rdErr es = none → ∀ H', Same H H' → Q .non H')
theorem ok_rounds (T : Txt K mg) : FnOk P w K mg base (L2.CX P w) 3 T.f_check_rounds T.d_check_rounds ["table"] (spRounds T.f_HasRound) := by
  have G_HasRound_init : FnOk P w K mg base CX0 1 T.f_HasRound_init T.d_HasRound_init ["self", "name"] (spErr "name" T.f_HasRound) := ok_eHasRound T
  have G_places_behind : FnOk P w K mg base CX0 1 T.f_places_behind T.d_places_behind ["table", "first"] spBehind := ok_behind T
  refine T.F_check_rounds.okX sc_check_rounds (fun vs H Q E h => ?_) (fun cdv A outer s H vs Q E hr h => ?_)
  · obtain ⟨d, es, rfl, _⟩ := h
    rfl
  · obtain ⟨d, es, rfl, ⟨kvs, hd, hp⟩, hfew, k1, k2⟩ := h
    refine ⟨_, (pss_one (ps_lock (ps_for (passes_of rfl) rfl (pi_items (pv 0)) (pg_tup rfl (pgs_cons (pg_name (i := 1) sc_check_rounds.nd rfl (Or.inl rfl)) (pgs_cons (pg_tup rfl (pgs_cons (pg_name (i := 2) sc_check_rounds.nd rfl (Or.inl rfl)) (pgs_cons (pg_name (i := 3) sc_check_rounds.nd rfl (Or.inl rfl)) pgs_nil))) pgs_nil)))
      (pss_one (ps_if (pt_cmpR op_in_seq (pv 2) (pe_call G_places_behind (hr.mono (by decide)) rfl T.m_places_behind T.F_places_behind.kp T.b_places_behind .nil pass0 (pa_cons (pv 0) (pa_cons (pv 3) pa_nil))) (by with_unfolding_all rfl))
      (pss_one (ps_raise rfl (takes_of rfl rfl rfl rfl) (pmk_oex T.ox_HasRound T.ix_HasRound T.tx_HasRound G_HasRound_init (hr.mono (by decide)) T.b_HasRound_init .nil pass0 rfl T.m_HasRound (pa_cons (pv 1) pa_nil))))
      pss_nil))))), ?_⟩
    refine ⟨d, _, hd, trivial, fun od => ?_⟩
    refine ⟨_, rfl, d, od, kvs, rfl, upd_same, ?_⟩
    refine for_ents (kvs := kvs) (fun i σ H' => ∃ x1 x2 x3, σ = [some (.ref d), x1, x2, x3] ∧ H' d = some (.frz od (.dK kvs)) ∧ (∀ c o, c ≠ d → H c = some o → H' c = some o) ∧ ∀ e ∈ es.take i, roundB es e = false) ⟨_, _, _, rfl, upd_same, fun c o cd hc => by rw [upd_ne cd]; exact hc, fun e he => by simp at he⟩ (fun i σ H' _ ⟨_, _, _, _, h, _⟩ => h) ?_ ?_
    · rintro i kk v U σ H' hi ⟨x1, x2, x3, rfl, h1, h2, h3⟩ nU
      obtain ⟨e, he, ⟨rfl, q, rfl, hq⟩⟩ := L2.paired_get hp hi
      have nq : q ≠ d := fun z => by rw [z, hd] at hq; cases hq
      have hU : Same H' (upd H' U (.tup [kV (.inr e.1), .ref q])) := same_upd nU
      have h2' : ∀ c o, c ≠ d → H c = some o → (upd H' U (.tup [kV (.inr e.1), .ref q])) c = some o := fun c o cd hc => hU _ _ (h2 c o cd hc)
      have h1' := hU _ _ h1
      refine ⟨U, _, rfl, SqT.of upd_same, rfl, _, _, rfl, _, _, rfl, q, _, rfl, SqT.of (h2' q _ nq hq), rfl, _, _, rfl, _, _, rfl, rfl, rfl, ?_⟩
      generalize upd H' U (.tup [kV (.inr e.1), .ref q]) = H3 at hU h1' h2' ⊢
      refine ⟨_, rfl, _, rfl, _, rfl, d, es, e.2.2, rfl, ⟨kvs, .inr ⟨od, h1'⟩, paired_on (fun _ _ z => z.on fun c o hc => h2' c _ (fun z => by rw [z, hd] at hc; cases hc) hc) hp⟩, hfew, fun b2 F2 H4 nb2 s4 hb2 nd2 hF2 => ?_⟩
      refine ⟨b2, _, rfl, .inl (SqL.of hb2), rfl, flat_names F2, _, rfl, ?_⟩
      rw [if_neg (by decide), inV_names]
      have keep4 : ∀ c o, c ≠ d → H c = some o → H4 c = some o := fun c o cd hc => s4 _ _ (h2' c o cd hc)
      by_cases hm : e.2.1 ∈ F2
      · rw [decide_eq_true hm]
        refine iteT ?_
        refine ⟨_, rfl, (by show 1 ≤ 1000; decide), fun a na => ?_⟩
        refine ⟨a, .str e.1, rfl, upd_same, fun dd H' nd ne eq => ⟨rfl, dd, [("name", .str e.1)], ?_⟩⟩
        refine raiseX_asks na (k1 e.1 ?_) keep4 (by rw [s4 _ _ h1']; intro z; cases z) dd H' nd ne eq
        unfold rdErr
        rw [find_at h3 he (round_yes ((hF2 _).mp hm))]
        rfl
      · rw [decide_eq_false hm]
        refine iteF ⟨_, _, _, rfl, s4 _ _ h1', keep4, fun f hf => ?_⟩
        rw [take_more he] at hf
        rcases List.mem_append.mp hf with hf | hf
        · exact h3 f hf
        · rw [List.mem_singleton.mp hf]
          exact Bool.eq_false_iff.mpr fun z => hm ((hF2 _).mpr (of_round z))
    · rintro σ H' ⟨x1, x2, x3, rfl, h1, h2, h3⟩
      rw [show es.take kvs.length = es from by rw [hp.length]; exact List.take_length] at h3
      refine ⟨h1, k2 ?_ _ fun c o hc => ?_⟩
      · unfold rdErr
        rw [List.find?_eq_none.mpr fun e he => by rw [h3 e he]; decide]
        rfl
      · by_cases e : c = d
        · rw [e] at hc ⊢; rw [upd_same, ← hd, hc]
        · rw [upd_ne e]; exact h2 c o e hc
theorem mem_filter_names {p : Ent → Bool} {e : Ent} : ∀ {es : List Ent}, (names es).Nodup → e ∈ es → (e.1 ∈ names (es.filter p) ↔ p e = true)
  | es, nd, he => by
    constructor
    · intro h
      obtain ⟨f, hf, e1⟩ := List.mem_map.mp h
      obtain ⟨hf1, hf2⟩ := List.mem_filter.mp hf
      have : f = e := by
        clear h hf hf2
        induction es with
        | nil => cases he
        | cons g r ih =>
          have nd' : (g.1 :: names r).Nodup := nd
          obtain ⟨n1, n2⟩ := List.nodup_cons.mp nd'
          rcases List.mem_cons.mp hf1 with a | a
          · rcases List.mem_cons.mp he with b | b
            · rw [a, b]
            · exact absurd (List.mem_map.mpr ⟨e, b, e1.symm.trans (by rw [a])⟩) n1
          · rcases List.mem_cons.mp he with b | b
            · exact absurd (List.mem_map.mpr ⟨f, a, e1.trans (by rw [b])⟩) n1
            · exact ih n2 b a
      rw [← this]
      exact hf2
    · intro h
      exact List.mem_map.mpr ⟨e, List.mem_filter.mpr ⟨he, h⟩, rfl⟩
def spUse (DU : Addr) : Sp := fun vs H Q E => ∃ (d : Addr) (es : List Ent) (s t : Str), vs = [.ref d, .str s, .str t] ∧ DictAt H d es ∧ (names es).Nodup ∧ es.length ≤ 100 ∧ (∀ z, useErr es s t = some z → RaisedX d H "name" (.str z) DU E) ∧ (useErr es s t = none → ∀ H', Same H H' → Q .non H')
theorem ok_use (T : Txt K mg) : FnOk P w K mg base (L2.CX P w) 3 T.f_check_use T.d_check_use ["table", "start", "end"] (spUse T.f_UselessLink) := by
  have G_UselessLink_init : FnOk P w K mg base CX0 1 T.f_UselessLink_init T.d_UselessLink_init ["self", "name"] (spErr "name" T.f_UselessLink) := ok_eUselessLink T
  have G_useful_names : FnOk P w K mg base CX0 2 T.f_useful_names T.d_useful_names ["table", "start", "end"] spUseful := ok_useful T
  refine T.F_check_use.okX sc_check_use (fun vs H Q E h => ?_) (fun cdv A outer s H vs Q E hr h => ?_)
  · obtain ⟨d, es, s, t, rfl, _⟩ := h
    rfl
  · obtain ⟨d, es, s, t, rfl, ⟨kvs, hd, hp⟩, nd, hfew, k1, k2⟩ := h
    refine ⟨_, (pss_cons (ps_set (i := 3) sc_check_use.nd rfl (Or.inl rfl) (pe_call G_useful_names (hr.mono (by decide)) rfl T.m_useful_names T.F_useful_names.kp T.b_useful_names .nil pass0 (pa_cons (pv 0) (pa_cons (pv 1) (pa_cons (pv 2) pa_nil)))))
    (pss_one (ps_lock (ps_for (passes_of rfl) rfl (pi_keys (pv 0)) (pg_name (i := 4) sc_check_use.nd rfl (Or.inl rfl))
      (pss_one (ps_if (pt_cmpR op_notIn_seq (pv 4) (pv 3) (by with_unfolding_all rfl))
      (pss_one (ps_raise rfl (takes_of rfl rfl rfl rfl) (pmk_oex T.ox_UselessLink T.ix_UselessLink T.tx_UselessLink G_UselessLink_init (hr.mono (by decide)) T.b_UselessLink_init .nil pass0 rfl T.m_UselessLink (pa_cons (pv 4) pa_nil))))
      pss_nil)))))), ?_⟩
    refine ⟨_, rfl, _, rfl, _, rfl, d, es, s, t, rfl, ⟨kvs, hd, hp⟩, hfew, fun l H1 nl s1 hl => ?_⟩
    have ld : l ≠ d := fun z => by rw [z, hd] at nl; cases nl
    refine ⟨d, _, s1 _ _ hd, trivial, fun od => ?_⟩
    refine ⟨_, rfl, d, od, rfl, .inl ⟨kvs, upd_same, ?_⟩⟩
    refine for_keys (kvs := kvs) (fun i σ H' => ∃ x4, σ = [some (.ref d), some (.str s), some (.str t), some (.ref l), x4] ∧ H' d = some (.frz od (.dK kvs)) ∧ (∀ c o, c ≠ d → H1 c = some o → H' c = some o) ∧ ∀ e ∈ es.take i, usefulB es s t e = true) ⟨_, rfl, upd_same, fun c o cd hc => by rw [upd_ne cd]; exact hc, fun e he => by simp at he⟩ (fun i σ H' _ ⟨_, _, h, _⟩ => h) ?_ ?_
    · rintro i kk v σ H' hi ⟨x4, rfl, h1, h2, h3⟩
      obtain ⟨e, he, ⟨rfl, q, rfl, hq⟩⟩ := L2.paired_get hp hi
      refine ⟨_, rfl, _, rfl, l, _, rfl, .inl (SqL.of (h2 l _ ld hl)), rfl, flat_names _, _, rfl, ?_⟩
      rw [if_pos rfl, show inV (kV (.inr e.1)) ((names (es.filter (usefulB es s t))).map V.str) = decide (e.1 ∈ names (es.filter (usefulB es s t))) from inV_names _ _]
      have me := mem_filter_names (p := usefulB es s t) nd (List.mem_of_getElem? he)
      by_cases hu : usefulB es s t e = true
      · rw [decide_eq_true (me.mpr hu)]
        refine iteF ⟨_, rfl, h1, h2, fun f hf => ?_⟩
        rw [take_more he] at hf
        rcases List.mem_append.mp hf with hf | hf
        · exact h3 f hf
        · rw [List.mem_singleton.mp hf]; exact hu
      · rw [decide_eq_false (fun z => hu (me.mp z))]
        refine iteT ?_
        refine ⟨_, rfl, (by show 1 ≤ 1000; decide), fun a na => ?_⟩
        refine ⟨a, .str e.1, rfl, upd_same, fun dd H' nd ne eq => ⟨rfl, dd, [("name", .str e.1)], ?_⟩⟩
        refine raiseX_asks na (k1 e.1 ?_) (fun c o cd hc => h2 c o cd (s1 _ _ hc)) (by rw [h1]; intro z; cases z) dd H' nd ne eq
        unfold useErr
        rw [find_at (fun f hf => by rw [h3 f hf]; rfl) he (by rw [Bool.eq_false_iff.mpr hu]; rfl)]
        rfl
    · rintro σ H' ⟨x4, rfl, h1, h2, h3⟩
      rw [show es.take kvs.length = es from by rw [hp.length]; exact List.take_length] at h3
      refine ⟨h1, k2 ?_ _ fun c o hc => ?_⟩
      · unfold useErr
        rw [List.find?_eq_none.mpr fun e he => by rw [h3 e he]; decide]
        rfl
      · by_cases e : c = d
        · rw [e] at hc ⊢; rw [upd_same, ← hd, hc]
        · rw [upd_ne e]; exact h2 c o e (s1 _ _ hc)
end

/-! ### both ends -/
section
variable {P : Program} {w : World} {K : PySem.W.Frag} {mg : Str → Option Value} {base : Heap}
def spEnds (DB DD : Addr) : Sp := fun vs H Q E => ∃ s t : Str, vs = [.str s, .str t] ∧ Wn s ∧ Wn t ∧ (∀ z, bad [s, t] = some z → Raised H "name" (.str z) DB E) ∧ (bad [s, t] = none → s = t → Raised H "name" (.str t) DD E) ∧
  (bad [s, t] = none → s ≠ t → ∀ H', Same H H' → Q .non H')
theorem ok_ends (T : Txt K mg) : FnOk P w K mg base (L2.CX P w) 3 T.f_check_ends T.d_check_ends ["start", "end"] (spEnds T.f_BadName T.f_DuplicateName) := by
  have G_BadName_init : FnOk P w K mg base CX0 1 T.f_BadName_init T.d_BadName_init ["self", "name"] (spErr "name" T.f_BadName) := ok_eBadName T
  have G_DuplicateName_init : FnOk P w K mg base CX0 1 T.f_DuplicateName_init T.d_DuplicateName_init ["self", "name"] (spErr "name" T.f_DuplicateName) := ok_eDuplicateName T
  have G_valid_name : FnOk P w K mg base CX0 1 T.f_valid_name T.d_valid_name ["text"] spName := ok_valid T
  refine T.F_check_ends.okX sc_check_ends (fun vs H Q E h => ?_) (fun cdv A outer s H vs Q E hr h => ?_)
  · obtain ⟨s, t, rfl, _⟩ := h
    rfl
  · obtain ⟨s, t, rfl, ws, wt, k1, k2, k3⟩ := h
    refine ⟨_, (C8.pss_cut (ps_for (passes_of rfl) rfl (pi_tup (pe_tup (pa_cons (pv 0) (pa_cons (pv 1) pa_nil)))) (pg_name (i := 2) sc_check_ends.nd rfl (Or.inl rfl))
      (pss_one (ps_if (pt_not (pt_val (pe_call G_valid_name (hr.mono (by decide)) rfl T.m_valid_name T.F_valid_name.kp T.b_valid_name .nil pass0 (pa_cons (pv 2) pa_nil))))
      (pss_one (ps_raise rfl (takes_of rfl rfl rfl rfl) (pmk_oex T.ox_BadName T.ix_BadName T.tx_BadName G_BadName_init (hr.mono (by decide)) T.b_BadName_init .nil pass0 rfl T.m_BadName (pa_cons (pv 2) pa_nil))))
      pss_nil)))
    (pss_one (ps_if (pt_cmpR op_eq (pv 0) (pv 1) (nomark _))
      (pss_one (ps_raise rfl (takes_of rfl rfl rfl rfl) (pmk_oex T.ox_DuplicateName T.ix_DuplicateName T.tx_DuplicateName G_DuplicateName_init (hr.mono (by decide)) T.b_DuplicateName_init .nil pass0 rfl T.m_DuplicateName (pa_cons (pv 1) pa_nil))))
      pss_nil))), ?_⟩
    refine ⟨fun σ H' => ∃ x2, σ = [some (.str s), some (.str t), x2] ∧ Same H H' ∧ bad [s, t] = none, ?_, ?_⟩
    · refine ⟨_, rfl, _, rfl, by show 2 ≤ sizeLine; decide, fun tu ntu => ?_⟩
      have wall : ∀ {i : Nat} {v : V}, [V.str s, V.str t][i]? = some v → ∃ z, v = .str z ∧ [s, t][i]? = some z ∧ Wn z := by
        intro i v hi
        have hlt := (List.getElem?_eq_some_iff.mp hi).1
        match i, hlt, hi with
        | 0, _, hi => exact ⟨s, (Option.some.inj hi).symm, rfl, ws⟩
        | 1, _, hi => exact ⟨t, (Option.some.inj hi).symm, rfl, wt⟩
      refine ⟨tu, rfl, ⟨_, SqT.of upd_same⟩, ?_⟩
      refine for_tup (K := K) (a := tu) (xs := [V.str s, V.str t]) (fun i σ H' => ∃ x2, σ = [some (.str s), some (.str t), x2] ∧ Same (upd H tu (.tup [V.str s, .str t])) H' ∧ ∀ z ∈ [s, t].take i, vn z = true) ⟨_, rfl, Same.refl _, fun z hz => by simp at hz⟩ (fun i σ H' _ ⟨_, _, s, _⟩ => SqT.of (s _ _ upd_same)) ?_ ?_
      · rintro i v σ H' hi ⟨x2, rfl, s1, hz⟩
        obtain ⟨z, rfl, ez, wz⟩ := wall hi
        refine ⟨_, rfl, z, rfl, wz.1, wz.2, fun H2 s2 => ?_⟩
        refine ⟨vn z, rfl, ?_⟩
        have s02 : Same H H2 := ((same_upd ntu).trans s1).trans s2
        by_cases hv : vn z = true
        · rw [hv]
          refine iteF ⟨_, rfl, s1.trans s2, fun q hq => ?_⟩
          rw [take_more ez] at hq
          rcases List.mem_append.mp hq with hq | hq
          · exact hz q hq
          · rw [List.mem_singleton.mp hq]; exact hv
        · rw [Bool.eq_false_iff.mpr hv]
          refine iteT ?_
          refine ⟨_, rfl, (by show 1 ≤ 1000; decide), fun a na => ?_⟩
          refine ⟨a, .str z, rfl, upd_same, fun d H' nd ne e => ⟨rfl, d, [("name", .str z)], ?_⟩⟩
          exact raise_asks na ((k1 z (bad_at hz ez hv)).on s02) d H' nd ne e
      · rintro σ H' ⟨x2, rfl, s1, hz⟩
        refine ⟨x2, rfl, (same_upd ntu).trans s1, ?_⟩
        unfold bad
        rw [List.find?_eq_none]
        intro z hm
        rw [hz z hm]
        decide
    rintro σ H1 ⟨x2, rfl, s1, hg⟩
    refine ⟨_, rfl, _, rfl, rfl, _, rfl, ?_⟩
    by_cases hst : s = t
    · rw [show decide (V.str s = V.str t) = true by rw [hst]; simp]
      refine iteT ?_
      refine ⟨_, rfl, (by show 1 ≤ 1000; decide), fun a na => ?_⟩
      refine ⟨a, .str t, rfl, upd_same, fun d H' nd ne e => ⟨rfl, d, [("name", .str t)], ?_⟩⟩
      exact raise_asks na ((k2 hg hst).on s1) d H' nd ne e
    · rw [show decide (V.str s = V.str t) = false by simp [hst]]
      exact iteF (k3 hg hst H1 s1)
end

/-! ### a new network -/
inductive NE
  | count (n : Nat)
  | name (z : Str)
  | twice (z : Str)
  | round (z : Str)
  | useless (z : Str)
/-- the error that is due for the links' number, the ends, the names -/
def earlyErr (es : List Ent) (s t : Str) : Option NE :=
  if 1 ≤ es.length ∧ es.length ≤ 10 then
    match bad [s, t] with
    | some z => some (.name z)
    | none => if s = t then some (.twice t) else
      match nmErr [] es with
      | some (true, z) => some (.name z)
      | some (false, z) => some (.twice z)
      | none => none
  else some (.count es.length)
/-- the error that is due for rounds and useless links -/
noncomputable def lateErr (es : List Ent) (s t : Str) : Option NE :=
  match rdErr es with
  | some z => some (.round z)
  | none => match useErr es s t with
    | some z => some (.useless z)
    | none => none
structure Errs where
  count : Addr
  name : Addr
  twice : Addr
  round : Addr
  useless : Addr
def RaisedN (D : Errs) (x : NE) (H : Hp) (E : XK) : Prop := match x with
  | .count n => Raised H "count" (.int (n : Int)) D.count E
  | .name z => Raised H "name" (.str z) D.name E
  | .twice z => Raised H "name" (.str z) D.twice E
  | .round z => Raised H "name" (.str z) D.round E
  | .useless z => Raised H "name" (.str z) D.useless E
/-- what lies behind a place -/
def BehOk (ts : List Ent) (H : Hp) (kv : Key × V) (q : Str) : Prop := kv.1 = .inr q ∧ ∃ (l : Addr) (F : List Str), kv.2 = .ref l ∧ H l = some (.lst (F.map V.str)) ∧ ∀ x, x ∈ F ↔ Lead ts q x
/-- a network at n: its links by name, its places -/
def NetAt (C : Addr) (H : Hp) (n : Addr) (s t : Str) (ts : List Ent) (ps : List Str) : Prop :=
  ∃ (dx d p b : Addr) (kvs : List (Key × V)), H n = some (.ins C dx [("_start", .str s), ("_end", .str t), ("_links", .ref d), ("_places", .ref p), ("_behind", .ref b)]) ∧ DictAt H d ts ∧ H p = some (.tup (ps.map V.str)) ∧ H b = some (.dK kvs) ∧ Paired (BehOk ts H) kvs ps
theorem nm_nd : ∀ {es : List Ent} {ks : List Str}, nmErr ks es = none → (names es).Nodup ∧ ∀ e ∈ es, e.1 ∉ ks
  | [], _, _ => ⟨List.nodup_nil, fun e h => by cases h⟩
  | e :: r, ks, h => by
    unfold nmErr at h
    by_cases h1 : vn e.1 = true
    · rw [if_pos h1] at h
      by_cases h2 : e.1 ∈ ks
      · rw [if_pos h2] at h; cases h
      · rw [if_neg h2] at h
        cases hb : bad [e.2.1, e.2.2] with
        | some z => rw [hb] at h; cases h
        | none =>
          rw [hb] at h
          obtain ⟨n1, n2⟩ := nm_nd (es := r) (ks := ks ++ [e.1]) h
          refine ⟨List.nodup_cons.mpr ⟨fun hm => ?_, n1⟩, fun f hf => ?_⟩
          · obtain ⟨f, hf, e1⟩ := List.mem_map.mp hm
            exact n2 f hf (e1 ▸ List.mem_append_right _ (List.mem_singleton.mpr rfl))
          · rcases List.mem_cons.mp hf with z | z
            · rw [z]; exact h2
            · exact fun q => n2 f z (List.mem_append_left _ q)
    · rw [if_neg h1] at h; cases h
theorem nm_nodup {es : List Ent} (h : nmErr [] es = none) : (names es).Nodup := (nm_nd h).1
theorem keys_inr {H : Hp} : ∀ {kvs : List (Key × V)} {es : List Ent}, Paired (EntOk H) kvs es → kvs.map (·.1) = (names es).map Sum.inr
  | _, _, .nil => rfl
  | (k, v) :: kvs, e :: es, .cons a r => by
    have h1 : k = .inr e.1 := a.1
    subst h1
    show (Sum.inr e.1 :: kvs.map (·.1)) = _
    rw [keys_inr r]
    rfl
def tabOf (es : List Ent) (ys : List Str) : List Ent := ys.map fun n => (n, (found es n).getD ("", ""))
theorem tab_names (es : List Ent) (ys : List Str) : names (tabOf es ys) = ys := by
  unfold tabOf names
  rw [List.map_map]
  exact List.map_id _
theorem found_mem : ∀ {es : List Ent} {e : Ent}, (names es).Nodup → e ∈ es → found es e.1 = some e.2
  | f :: es, e, nd, he => by
    have nd' : (f.1 :: names es).Nodup := nd
    obtain ⟨n1, n2⟩ := List.nodup_cons.mp nd'
    unfold found
    rcases List.mem_cons.mp he with z | z
    · rw [z, List.find?_cons_of_pos (by simp)]
      rfl
    · rw [List.find?_cons_of_neg (by
        have : ¬ f.1 = e.1 := fun q => n1 (q ▸ List.mem_map.mpr ⟨e, z, rfl⟩)
        simpa using this)]
      exact found_mem n2 z
theorem tab_perm {es : List Ent} {ys : List Str} (nd : (names es).Nodup) (h : ys.Perm (names es)) : (tabOf es ys).Perm es := by
  have e : tabOf es (names es) = es := by
    unfold tabOf names
    rw [List.map_map]
    have : ∀ e ∈ es, ((fun n => (n, (found es n).getD ("", ""))) ∘ fun e : Ent => e.1) e = id e := fun e he => by
      show (e.1, (found es e.1).getD ("", "")) = e
      rw [found_mem nd he]
      rfl
    rw [List.map_congr_left this]
    exact List.map_id _
  have p := h.map fun n => (n, (found es n).getD ("", ""))
  have : (tabOf es ys).Perm (tabOf es (names es)) := p
  rw [e] at this
  exact this
section
variable {P : Program} {w : World} {K : PySem.W.Frag} {mg : Str → Option Value} {base : Heap}
theorem BehOk.on {ts : List Ent} {H H' : Hp} {kv : Key × V} {q : Str} (h : BehOk ts H kv q) (s : ∀ c o, H c = some (.lst o) → H' c = some (.lst o)) : BehOk ts H' kv q := let ⟨h1, l, F, h2, h3, h4⟩ := h; ⟨h1, l, F, h2, s _ _ h3, h4⟩
theorem beh_any {ts : List Ent} {H : Hp} {q : Str} : ∀ {kvs : List (Key × V)} {qs : List Str}, Paired (BehOk ts H) kvs qs → (kvs.any fun kv => decide (kv.1 = (.inr q : Key))) = decide (q ∈ qs)
  | _, _, .nil => rfl
  | (k, v) :: kvs, m :: qs, .cons a r => by
    have h1 : k = .inr m := a.1
    subst h1
    rw [List.any_cons, beh_any r]
    by_cases e : q = m
    · simp [e]
    · have e2 : ¬ m = q := fun z => e z.symm
      simp [e, e2]
theorem beh_put {ts : List Ent} {H : Hp} {q : Str} {v : V} {kvs : List (Key × V)} {qs : List Str} (h : Paired (BehOk ts H) kvs qs) (hn : q ∉ qs) : putK kvs (.inr q : Key) v = kvs ++ [(.inr q, v)] := by
  unfold putK
  rw [beh_any h, decide_eq_false hn, if_neg Bool.false_ne_true]
theorem places_nodup {es : List Ent} {s t : Str} {ps : List Str} (h : Places es s t ps) (hne : s ≠ t) : ps.Nodup := by
  obtain ⟨ys, rfl, nd, _, hm⟩ := h
  refine List.nodup_cons.mpr ⟨fun z => ?_, List.nodup_append.mpr ⟨nd, by simp, fun a ha b hb => ?_⟩⟩
  · rcases List.mem_append.mp z with z | z
    · exact ((hm s).mp z).2.1 rfl
    · exact hne (List.mem_singleton.mp z)
  · rw [List.mem_singleton.mp hb]
    exact ((hm a).mp ha).2.2
theorem paired_mem {α β : Type} {F G : α → β → Prop} : ∀ {xs : List α} {ys : List β}, (∀ a b, a ∈ xs → F a b → G a b) → Paired F xs ys → Paired G xs ys
  | _, _, _, .nil => .nil
  | _, _, h, .cons a r => .cons (h _ _ List.mem_cons_self a) (paired_mem (fun a b ha => h a b (List.mem_cons_of_mem _ ha)) r)
def spNet (K : PySem.W.Frag) (C : Addr) (D : Errs) : Sp := fun vs H Q E => ∃ (n dx a : Addr) (es : List Ent) (s t : Str), vs = [.ref n, .ref a, .str s, .str t] ∧ H n = some (.ins C dx []) ∧ Rows K H a es ∧ es.length ≤ 100 ∧ (∀ e ∈ es, WnE e) ∧ Wn s ∧ Wn t ∧
  (∀ x, earlyErr es s t = some x → RaisedN D x H E) ∧ (earlyErr es s t = none → ∀ ts, ts.Perm es → PyProof.Rows.sortedS (names ts) = true → (∀ x, lateErr ts s t = some x → RaisedN D x H E) ∧
    (lateErr ts s t = none → ∀ ps, Places ts s t ps → (8 < ps.length → RaisedN D (.count ps.length) H E) ∧ (ps.length ≤ 8 → ∀ H', (∀ c o, c ≠ n → H c = some o → H' c = some o) → NetAt C H' n s t ts ps → (∀ Hx : Hp, (∀ c o, (∀ xs, o ≠ .lst xs) → H' c = some o → Hx c = some o) → (∀ c o, H c = none → H' c = some o → Hx c = some o) → NetAt C Hx n s t ts ps) → Q .non H')))
theorem ok_net (T : Txt K mg) : FnOk P w K mg base (L2.CX P w) 4 T.f_Network_init T.d_Network_init ["self", "links", "start", "end"] (spNet K T.f_Network ⟨T.f_BadCount, T.f_BadName, T.f_DuplicateName, T.f_HasRound, T.f_UselessLink⟩) := by
  have G_BadCount_init : FnOk P w K mg base CX0 1 T.f_BadCount_init T.d_BadCount_init ["self", "count"] (spErr "count" T.f_BadCount) := ok_eBadCount T
  have GX_check_ends : FnOk P w K mg base (L2.CX P w) 3 T.f_check_ends T.d_check_ends ["start", "end"] (spEnds T.f_BadName T.f_DuplicateName) := ok_ends T
  have GX_check_names : FnOk P w K mg base (L2.CX P w) 3 T.f_check_names T.d_check_names ["links"] (spNames K T.f_BadName T.f_DuplicateName) := ok_names T
  have GX_check_rounds : FnOk P w K mg base (L2.CX P w) 3 T.f_check_rounds T.d_check_rounds ["table"] (spRounds T.f_HasRound) := ok_rounds T
  have GX_check_use : FnOk P w K mg base (L2.CX P w) 3 T.f_check_use T.d_check_use ["table", "start", "end"] (spUse T.f_UselessLink) := ok_use T
  have G_ordered_places : FnOk P w K mg base CX0 1 T.f_ordered_places T.d_ordered_places ["table", "start", "end"] spPlaces := ok_places T
  have G_places_behind : FnOk P w K mg base CX0 1 T.f_places_behind T.d_places_behind ["table", "first"] spBehind := ok_behind T
  refine T.F_Network_init.okX sc_Network_init (fun vs H Q E h => ?_) (fun cdv A outer s H vs Q E hr h => ?_)
  · obtain ⟨n, dx, a, es, s, t, rfl, _⟩ := h
    rfl
  · obtain ⟨n, dx, a, es, s, t, rfl, hn, hrw, hfew, hw, ws, wt, k1, k2⟩ := h
    refine ⟨_, (pss_cons (ps_if (pt_not (pt_chain op_le op_le pe_int (pe_callB call_len_seq (by rfl) T.n_len (by decide +kernel) (pa_cons (pv 1) pa_nil)) (ClX.pe_cval (pe_glob (v := .ref T.f_Network) rfl T.m_Network rfl))))
      (pss_one (ps_raise rfl (takes_of rfl rfl rfl rfl) (pmk_oex T.ox_BadCount T.ix_BadCount T.tx_BadCount G_BadCount_init (hr.mono (by decide)) T.b_BadCount_init .nil pass0 rfl T.m_BadCount (pa_cons (pe_callB call_len_seq (by rfl) T.n_len (by decide +kernel) (pa_cons (pv 1) pa_nil)) pa_nil))))
      pss_nil)
    (pss_cons (ps_expr (pe_call GX_check_ends (hr.mono (by decide)) rfl T.m_check_ends T.F_check_ends.kp T.b_check_ends .nil (passX (takes_of rfl rfl rfl rfl)) (pa_cons (pv 2) (pa_cons (pv 3) pa_nil))))
    (pss_cons (ps_expr (pe_call GX_check_names (hr.mono (by decide)) rfl T.m_check_names T.F_check_names.kp T.b_check_names .nil (passX (takes_of rfl rfl rfl rfl)) (pa_cons (pv 1) pa_nil)))
    (pss_cons (ps_set (i := 4) sc_Network_init.nd rfl (Or.inr rfl) (pe_dc (own := [("name", 7), ("tail", 8), ("head", 9)]) (g := gSeq K 3 (gCons (gName 7) (gCons (gName 8) (gCons (gName 9) gNil)))) (tt := tYes) rfl sc_Network_init.nd (pi_seq (pv 1)) (blkOk_by (N := ["self", "links", "start", "end", "given", "table", "places", "name", "tail", "head", "place"]) (sc := defScope s_Network_init) (by decide +kernel)) (fun _ _ _ _ _ => (pg_seq rfl (pgs_cons (pg_name (i := 7) sc_Network_init.nd rfl (Or.inl rfl)) (pgs_cons (pg_name (i := 8) sc_Network_init.nd rfl (Or.inl rfl)) (pgs_cons (pg_name (i := 9) sc_Network_init.nd rfl (Or.inl rfl)) pgs_nil))))) (fun _ _ _ _ _ => pts_nil) (fun _ _ _ _ _ => (pv 7)) (fun _ _ _ _ _ => (pe_tup (pa_cons (pv 8) (pa_cons (pv 9) pa_nil))))))
    (pss_cons (ps_set (i := 5) sc_Network_init.nd rfl (Or.inr rfl) (pe_dc (own := [("name", 7)]) (g := gName 7) (tt := tYes) rfl sc_Network_init.nd (pi_list (pe_callB (call_sortedD rfl) (by rfl) T.n_sorted (by decide +kernel) (pa_cons (pv 4) pa_nil))) (blkOk_by (N := ["self", "links", "start", "end", "given", "table", "places", "name", "tail", "head", "place"]) (sc := defScope s_Network_init) (by decide +kernel)) (fun _ _ _ _ _ => pg_name (i := 7) sc_Network_init.nd rfl (Or.inl rfl)) (fun _ _ _ _ _ => pts_nil) (fun _ _ _ _ _ => (pv 7)) (fun _ _ _ _ _ => (pe_dget (hu_of hr) (pv 4) (pv 7) (fun _ _ => rfl)))))
    (pss_cons (ps_expr (pe_call GX_check_rounds (hr.mono (by decide)) rfl T.m_check_rounds T.F_check_rounds.kp T.b_check_rounds .nil (passX (takes_of rfl rfl rfl rfl)) (pa_cons (pv 5) pa_nil)))
    (pss_cons (ps_expr (pe_call GX_check_use (hr.mono (by decide)) rfl T.m_check_use T.F_check_use.kp T.b_check_use .nil (passX (takes_of rfl rfl rfl rfl)) (pa_cons (pv 5) (pa_cons (pv 2) (pa_cons (pv 3) pa_nil)))))
    (pss_cons (ps_set (i := 6) sc_Network_init.nd rfl (Or.inl rfl) (pe_call G_ordered_places (hr.mono (by decide)) rfl T.m_ordered_places T.F_ordered_places.kp T.b_ordered_places .nil pass0 (pa_cons (pv 5) (pa_cons (pv 2) (pa_cons (pv 3) pa_nil)))))
    (pss_cons (ps_if (pt_cmpR op_gt (pe_callB call_len_seq (by rfl) T.n_len (by decide +kernel) (pa_cons (pv 6) pa_nil)) (ClX.pe_cval (pe_glob (v := .ref T.f_Network) rfl T.m_Network rfl)) (nomark _))
      (pss_one (ps_raise rfl (takes_of rfl rfl rfl rfl) (pmk_oex T.ox_BadCount T.ix_BadCount T.tx_BadCount G_BadCount_init (hr.mono (by decide)) T.b_BadCount_init .nil pass0 rfl T.m_BadCount (pa_cons (pe_callB call_len_seq (by rfl) T.n_len (by decide +kernel) (pa_cons (pv 6) pa_nil)) pa_nil))))
      pss_nil)
    (pss_cons (ps_fld (pv 0) (pv 2) rfl)
    (pss_cons (ps_fld (pv 0) (pv 3) rfl)
    (pss_cons (ps_fld (pv 0) (pv 5) rfl)
    (pss_cons (ps_fld (pv 0) (pv 6) rfl)
    (pss_one (ps_fld (pv 0) (pe_dc (own := [("place", 10)]) (g := gName 10) (tt := tYes) rfl sc_Network_init.nd (pi_tup (pv 6)) (blkOk_by (N := ["self", "links", "start", "end", "given", "table", "places", "name", "tail", "head", "place"]) (sc := defScope s_Network_init) (by decide +kernel)) (fun _ _ _ _ _ => pg_name (i := 10) sc_Network_init.nd rfl (Or.inl rfl)) (fun _ _ _ _ _ => pts_nil) (fun _ _ _ _ _ => (pv 10)) (fun _ _ _ _ _ => (pe_call G_places_behind (hr.mono (by decide)) rfl T.m_places_behind T.F_places_behind.kp T.b_places_behind .nil pass0 (pa_cons (pv 5) (pa_cons (pv 10) pa_nil))))) rfl))))))))))))))), ?_⟩
    obtain ⟨qs, hq, hp⟩ := hrw
    have hql : (qs.map V.ref).length = es.length := by rw [List.length_map, hp.length]
    have hq' : SqL K H a (qs.map V.ref) ∨ SqT K H a (qs.map V.ref) := hq
    have e1 : ¬ (1 ≤ es.length ∧ es.length ≤ 10) → RaisedN ⟨T.f_BadCount, T.f_BadName, T.f_DuplicateName, T.f_HasRound, T.f_UselessLink⟩ (.count es.length) H E := fun h => k1 _ (by unfold earlyErr; rw [if_neg h])
    refine ⟨_, rfl, a, _, rfl, hq, _, _, rfl, rfl, _, rfl, ite2 (fun g1 => ?_) fun g1 => ?_⟩
    · have g1' : (1 : Int) ≤ (qs.map V.ref).length := of_decide_eq_true g1
      refine ⟨T.f_Network, _, _, _, rfl, T.cr_Network, T.cv_Network_MOST_LINKS, _, _, rfl, rfl, _, rfl, ite2 (fun g2 => ?_) fun g2 => ?_⟩
      · have g2' : ¬ ((qs.map V.ref).length : Int) ≤ 10 := by simpa using g2
        refine ⟨_, rfl, a, _, rfl, hq, (by show 1 ≤ 1000; decide), fun a na => ?_⟩
        refine ⟨a, .int (qs.map V.ref).length, rfl, upd_same, fun d H' nd ne e => ⟨rfl, d, [("count", .int (qs.map V.ref).length)], ?_⟩⟩
        refine raise_asks na ?_ d H' nd ne e
        rw [hql]
        exact e1 (by omega)
      · have g2' : ((qs.map V.ref).length : Int) ≤ 10 := by simpa using g2
        have hlen : 1 ≤ es.length ∧ es.length ≤ 10 := by rw [hql] at g1' g2'; omega
        have kn : ∀ z, bad [s, t] = some z → Raised H "name" (.str z) T.f_BadName E := fun z hz => k1 (.name z) (by unfold earlyErr; rw [if_pos hlen, hz])
        have kt : bad [s, t] = none → s = t → Raised H "name" (.str t) T.f_DuplicateName E := fun hb e => k1 (.twice t) (by unfold earlyErr; rw [if_pos hlen, hb]; exact if_pos e)
        refine ⟨_, rfl, _, rfl, s, t, rfl, ws, wt, kn, kt, fun hb hne H1 s1 => ?_⟩
        have kn2 : ∀ z, nmErr [] es = some (true, z) → Raised H1 "name" (.str z) T.f_BadName E := fun z hz => Raised.on (k1 (.name z) (by unfold earlyErr; rw [if_pos hlen, hb]; show (if s = t then _ else _) = _; rw [if_neg hne, hz])) s1
        have kt2 : ∀ z, nmErr [] es = some (false, z) → Raised H1 "name" (.str z) T.f_DuplicateName E := fun z hz => Raised.on (k1 (.twice z) (by unfold earlyErr; rw [if_pos hlen, hb]; show (if s = t then _ else _) = _; rw [if_neg hne, hz])) s1
        refine ⟨_, rfl, a, es, rfl, Rows.on ⟨qs, hq, hp⟩ s1, hfew, hw, kn2, kt2, fun hnm H2 s2 => ?_⟩
        have he0 : earlyErr es s t = none := by unfold earlyErr; rw [if_pos hlen, hb]; show (if s = t then _ else _) = _; rw [if_neg hne, hnm]
        have s02 := s1.trans s2
        have nde : (names es).Nodup := nm_nodup hnm
        refine ⟨_, rfl, a, rfl, ?_⟩
        refine dc_seq (K := K) (H0 := H) (xs := qs.map V.ref) hq s02 (fun D i H' => Same H H' ∧ ∃ kvs, H' D = some (.dK kvs) ∧ Paired (EntOk H') kvs (es.take i)) (fun D hD => ⟨s02.trans (same_upd hD), [], upd_same, .nil⟩) (fun D i H' h => h.1) ?_ ?_
        · rintro D hD i x H' hi ⟨s3, kvs, h1, h2⟩
          obtain ⟨q, hqi, rfl⟩ : ∃ q, qs[i]? = some q ∧ x = V.ref q := by
            rw [List.getElem?_map] at hi
            cases e : qs[i]? with
            | none => rw [e] at hi; cases hi
            | some q => rw [e] at hi; exact ⟨q, rfl, (Option.some.inj hi).symm⟩
          obtain ⟨e, hei, hr⟩ := L2.paired_get hp hqi
          have nDH : H D = none := s02.free hD
          have hkl : kvs.length ≤ 10 := by rw [h2.length, List.length_take]; omega
          refine seq_ask (hr.on s3) rfl ⟨_, _, rfl, _, _, rfl, _, _, rfl, rfl, rfl, _, rfl, _, rfl, _, rfl, by show 2 ≤ sizeLine; decide, fun U nU => ?_⟩
          have hU : Same H' (upd H' U (.tup [V.str e.2.1, .str e.2.2])) := same_upd nU
          have nUD : U ≠ D := fun z => by rw [z, h1] at nU; cases nU
          refine ⟨kvs, .inr e.1, rfl, hU _ _ h1, small1000 (by omega), same_mut (s3.trans hU) nDH, _, upd_same, ?_⟩
          have hs := stored_ok (n := e.1) (e := e.2) (q := U) (paired_on (fun _ _ z => z.on fun c o hc => hU _ _ hc) h2) (by rw [upd_same])
          have hnm2 : e.1 ∉ names (es.take i) := by
            have nd2 := nde
            rw [← List.take_append_drop i es, drop_at hei] at nd2
            unfold names at nd2
            rw [List.map_append, List.map_cons] at nd2
            intro hm
            exact (List.nodup_append.mp nd2).2.2 _ hm _ List.mem_cons_self rfl
          have e2 : stored (es.take i) e.1 e.2 = es.take (i + 1) := by unfold stored; rw [if_neg hnm2, take_more hei]
          rw [e2] at hs
          exact paired_on (fun _ _ z => z.on fun c o hc => by rw [upd_ne (fun z => by rw [z, hU _ _ h1] at hc; cases hc)]; exact hc) hs
        · rintro D H3 hD ⟨s3, kvs, h1, h2⟩
          rw [hql, List.take_length] at h2
          have nDH : H D = none := s02.free hD
          refine ⟨_, rfl, D, kvs, names es, rfl, .inl h1, keys_inr h2, by unfold names; rw [List.length_map]; omega, fun ys L hpm hso nL => ?_⟩
          refine ⟨L, rfl, ⟨_, SqL.of upd_same⟩, fun D2 hD2 => ?_⟩
          have hL3 : Same H3 (upd H3 L (.lst (ys.map V.str))) := same_upd nL
          have hLs : (upd H3 L (.lst (ys.map V.str))) L = some (.lst (ys.map V.str)) := upd_same
          generalize upd H3 L (.lst (ys.map V.str)) = H4 at hL3 hLs hD2 ⊢
          have s04 := s3.trans hL3
          have nD2H : H D2 = none := s04.free hD2
          have hpt : (tabOf es ys).Perm es := tab_perm nde hpm
          have hnt : names (tabOf es ys) = ys := tab_names es ys
          have hlt : (tabOf es ys).length = es.length := hpt.length_eq
          refine dc_list (K := K) (a := L) (xs := ys.map V.str) (fun i H' => Same H4 H' ∧ ∃ kvs2, H' D2 = some (.dK kvs2) ∧ Paired (EntOk H') kvs2 ((tabOf es ys).take i)) ⟨same_upd hD2, [], upd_same, .nil⟩ (fun i H' _ h => SqL.of (h.1 _ _ hLs)) ?_ ?_
          · rintro i x H' hi ⟨s5, kvs2, g1, g2⟩
            obtain ⟨m, hm, rfl⟩ : ∃ m, ys[i]? = some m ∧ x = V.str m := by
              rw [List.getElem?_map] at hi
              cases e : ys[i]? with
              | none => rw [e] at hi; cases hi
              | some q => rw [e] at hi; exact ⟨q, rfl, (Option.some.inj hi).symm⟩
            have hme : m ∈ names es := hpm.mem_iff.mp (List.mem_of_getElem? hm)
            rcases val_found (n := m) h2 with ⟨z1, z2⟩ | ⟨e, p, z1, z2, z3⟩
            · have := found_some (es := es) (n := m)
              rw [z1] at this
              exact absurd hme (of_decide_eq_false this.symm)
            · have hk5 : H' D = some (.dK kvs) := s5 _ _ (hL3 _ _ h1)
              have het : (tabOf es ys)[i]? = some (m, e) := by unfold tabOf; rw [List.getElem?_map, hm]; show some (m, (found es m).getD _) = _; rw [z1]; rfl
              have hkl : kvs2.length ≤ 10 := by rw [g2.length, List.length_take]; omega
              refine ⟨rfl, _, rfl, _, rfl, _, rfl, D, .ref p, rfl, ?_, kvs2, .inr m, rfl, g1, small1000 (by omega), ?_⟩
              · rw [← z2]; exact DGet.k (k := .inr m) hk5
              · refine ⟨same_mut s5 hD2, _, upd_same, ?_⟩
                have hs := stored_ok (n := m) (e := e) (q := p) g2 (s5 _ _ (hL3 _ _ z3))
                have hnm2 : m ∉ names ((tabOf es ys).take i) := by
                  have nd2 : ys.Nodup := hpm.nodup_iff.mpr nde
                  have e1 : names ((tabOf es ys).take i) = ys.take i := by unfold names tabOf; rw [← List.map_take, List.map_map]; exact List.map_id _
                  rw [e1]
                  rw [← List.take_append_drop i ys, drop_at hm] at nd2
                  intro hm
                  exact (List.nodup_append.mp nd2).2.2 _ hm _ List.mem_cons_self rfl
                have e2 : stored ((tabOf es ys).take i) m e = (tabOf es ys).take (i + 1) := by unfold stored; rw [if_neg hnm2, take_more het]
                rw [e2] at hs
                exact paired_on (fun _ _ z => z.on fun c o hc => by rw [upd_ne (fun z => by rw [z, g1] at hc; cases hc)]; exact hc) hs
          · rintro H5 ⟨s5, kvs2, g1, g2⟩
            rw [List.length_map, show ys.length = (tabOf es ys).length from by unfold tabOf; rw [List.length_map], List.take_length] at g2
            have s05 := s04.trans s5
            obtain ⟨kr, k3⟩ := k2 he0 (tabOf es ys) hpt (by rw [hnt]; exact hso)
            generalize tabOf es ys = ts at hpt hnt hlt g2 kr k3
            have ndt : (names ts).Nodup := by rw [hnt]; exact hpm.nodup_iff.mpr nde
            have ht20 : ts.length ≤ 20 := by omega
            have kr1 : ∀ z, rdErr ts = some z → RaisedX D2 H5 "name" (.str z) T.f_HasRound E := fun z hz => Raised.but (kr (.round z) (by unfold lateErr; rw [hz])) s05 nD2H
            refine ⟨_, rfl, D2, ts, rfl, ⟨kvs2, g1, g2⟩, by omega, kr1, fun hrd H6 s6 => ?_⟩
            have s06 := s05.trans s6
            have kr2 : ∀ z, useErr ts s t = some z → RaisedX D2 H6 "name" (.str z) T.f_UselessLink E := fun z hz => Raised.but (kr (.useless z) (by unfold lateErr; rw [hrd]; show (match useErr ts s t with | some z => _ | none => _) = _; rw [hz])) s06 nD2H
            have dt6 : DictAt H6 D2 ts := DictAt.same ⟨kvs2, g1, g2⟩ s6
            refine ⟨_, rfl, _, rfl, _, rfl, D2, ts, s, t, rfl, dt6, ndt, by omega, kr2, fun hus H7 s7 => ?_⟩
            have s07 := s06.trans s7
            have k4 := k3 (by unfold lateErr; rw [hrd]; show (match useErr ts s t with | some z => _ | none => _) = _; rw [hus])
            refine ⟨_, rfl, _, rfl, _, rfl, D2, ts, s, t, rfl, dt6.same s7, ht20, fun pp ps H8 npp s8 hpp hps => ?_⟩
            obtain ⟨k5, k6⟩ := k4 ps hps
            have s08 := s07.trans s8
            have hpl : (ps.map V.str).length = ps.length := List.length_map _
            refine ⟨_, rfl, pp, _, rfl, .inr (SqT.of hpp), T.f_Network, _, _, _, rfl, T.cr_Network, T.cv_Network_MOST_PLACES, _, _, rfl, rfl, _, rfl, ite2 (fun g8 => ?_) fun g8 => ?_⟩
            · have g8' : (8 : Int) < ((ps.map V.str).length : Nat) := of_decide_eq_true g8
              refine ⟨_, rfl, pp, _, rfl, .inr (SqT.of hpp), (by show 1 ≤ 1000; decide), fun a na => ?_⟩
              refine ⟨a, .int (ps.map V.str).length, rfl, upd_same, fun d H' nd ne e => ⟨rfl, d, [("count", .int (ps.map V.str).length)], ?_⟩⟩
              refine raise_asks na ?_ d H' nd ne e
              rw [hpl] at g8' ⊢
              exact Raised.on (k5 (by omega)) s08
            · have g8' : ps.length ≤ 8 := by
                have : ¬ (8 : Int) < ((ps.map V.str).length : Nat) := fun q => g8 (decide_eq_true q)
                rw [hpl] at this
                omega
              have hn8 := s08 _ _ hn
              refine ⟨_, rfl, _, rfl, n, T.f_Network, dx, _, rfl, hn8, T.cl_Network, T.na_Network_start, by show 0 < 1000; decide, ?_⟩
              refine ⟨_, rfl, _, rfl, n, T.f_Network, dx, _, rfl, upd_same, T.cl_Network, T.na_Network_end, by show 1 < 1000; decide, ?_⟩
              refine ⟨_, rfl, _, rfl, n, T.f_Network, dx, _, rfl, upd_same, T.cl_Network, T.na_Network_links, by show 2 < 1000; decide, ?_⟩
              refine ⟨_, rfl, _, rfl, n, T.f_Network, dx, _, rfl, upd_same, T.cl_Network, T.na_Network_places, by show 3 < 1000; decide, ?_⟩
              generalize hHa : upd (upd (upd (upd H8 n _) n _) n _) n _ = Ha
              have hna : Ha n = some (.ins T.f_Network dx [("_start", .str s), ("_end", .str t), ("_links", .ref D2), ("_places", .ref pp)]) := by rw [← hHa]; exact upd_same
              have hka : ∀ c, c ≠ n → Ha c = H8 c := fun c cn => by rw [← hHa, upd_ne cn, upd_ne cn, upd_ne cn, upd_ne cn]
              have nn : ∀ {c : Addr} {o : HO}, H8 c = some o → (∀ C dx fs, o ≠ .ins C dx fs) → c ≠ n := fun {c o} hc hne z => by rw [z, hn8] at hc; cases hc; exact hne _ _ _ rfl
              have dt8 := (dt6.same s7).same s8
              have dta : DictAt Ha D2 ts := dt8.on (fun c o hc => by rw [hka c (nn hc fun _ _ _ z => nomatch z)]; exact hc) fun kvs hc => by rw [hka D2 (nn hc fun _ _ _ z => nomatch z)]; exact hc
              have hpa : Ha pp = some (.tup (ps.map V.str)) := by rw [hka pp (nn hpp fun _ _ _ z => nomatch z)]; exact hpp
              refine ⟨_, rfl, pp, rfl, ⟨_, SqT.of hpa⟩, fun D3 hD3 => ?_⟩
              have ndp : ps.Nodup := places_nodup hps hne
              refine dc_tup (K := K) (a := pp) (xs := ps.map V.str) (fun i H' => Same Ha H' ∧ ∃ kvs3, H' D3 = some (.dK kvs3) ∧ Paired (BehOk ts H') kvs3 (ps.take i) ∧ ∀ kv ∈ kvs3, ∀ l, kv.2 = V.ref l → H l = none) ⟨same_upd hD3, [], upd_same, .nil, fun kv hkv => by cases hkv⟩ (fun i H' _ h => SqT.of (h.1 _ _ hpa)) ?_ ?_
              · rintro i x H' hi ⟨s9, kvs3, g1, g2, g3⟩
                obtain ⟨m, hm, rfl⟩ : ∃ m, ps[i]? = some m ∧ x = V.str m := by
                  rw [List.getElem?_map] at hi
                  cases e : ps[i]? with
                  | none => rw [e] at hi; cases hi
                  | some q => rw [e] at hi; exact ⟨q, rfl, (Option.some.inj hi).symm⟩
                have hkl : kvs3.length ≤ 10 := by rw [g2.length, List.length_take]; omega
                refine ⟨rfl, _, rfl, _, rfl, _, rfl, D2, ts, m, rfl, (dta.same s9).rd, by omega, fun l F H10 nl s10 hl ndF hF => ?_⟩
                refine ⟨kvs3, .inr m, rfl, s10 _ _ g1, small1000 (by omega), same_mut (s9.trans s10) hD3, _, upd_same, ?_⟩
                have hnm : m ∉ ps.take i := by
                  have nd2 := ndp
                  rw [← List.take_append_drop i ps, drop_at hm] at nd2
                  intro hm
                  exact (List.nodup_append.mp nd2).2.2 _ hm _ List.mem_cons_self rfl
                rw [beh_put g2 hnm, take_more hm]
                have up : ∀ c o, H10 c = some (.lst o) → (upd H10 D3 (.dK (kvs3 ++ [(.inr m, V.ref l)]))) c = some (.lst o) := fun c o hc => by rw [upd_ne (fun z => by rw [z, s10 _ _ g1] at hc; cases hc)]; exact hc
                refine ⟨paired_snoc ⟨rfl, l, F, rfl, up _ _ hl, hF⟩ (paired_on (fun _ _ z => z.on fun c o hc => up _ _ (s10 _ _ hc)) g2), fun kv hkv l' e => ?_⟩
                rcases List.mem_append.mp hkv with hkv | hkv
                · exact g3 kv hkv l' e
                · rw [List.mem_singleton.mp hkv] at e
                  obtain rfl : l = l' := V.ref.inj e
                  cases q : H l with
                  | none => rfl
                  | some o =>
                    by_cases en : l = n
                    · rw [en, s9 _ _ hna] at nl; cases nl
                    · rw [s9 _ _ ((hka l en).trans (s08 _ _ q))] at nl; cases nl
              · rintro H9 ⟨s9, kvs3, g1, g2, g3⟩
                rw [List.length_map, List.take_length] at g2
                have hn9 := s9 _ _ hna
                refine ⟨_, rfl, n, T.f_Network, dx, _, rfl, hn9, T.cl_Network, T.na_Network_behind, by show 4 < 1000; decide, ?_⟩
                have up : ∀ c o, (∀ C dx fs, o ≠ .ins C dx fs) → H9 c = some o → (upd H9 n (HO.ins T.f_Network dx (putF "_behind" (V.ref D3) [("_start", .str s), ("_end", .str t), ("_links", .ref D2), ("_places", .ref pp)]))) c = some o := fun c o hne hc => by
                  rw [upd_ne (fun z => by rw [z, hn9] at hc; cases hc; exact hne _ _ _ rfl)]; exact hc
                have hds : DictAt (upd H9 n (HO.ins T.f_Network dx (putF "_behind" (V.ref D3) [("_start", .str s), ("_end", .str t), ("_links", .ref D2), ("_places", .ref pp)]))) D2 ts := (dta.same s9).on (fun c o hc => up _ _ (fun _ _ _ z => nomatch z) hc) fun kvs hc => up _ _ (fun _ _ _ z => nomatch z) hc
                refine k6 g8' _ (fun c o cn hc => ?_) ⟨dx, D2, pp, D3, kvs3, upd_same, ?_, ?_, ?_, ?_⟩ fun Hx x1 x2 => ⟨dx, D2, pp, D3, kvs3, x1 _ _ (fun _ z => nomatch z) upd_same, hds.on (fun c o hc => x1 _ _ (fun _ z => nomatch z) hc) (fun kvs hc => x1 _ _ (fun _ z => nomatch z) hc), x1 _ _ (fun _ z => nomatch z) (up _ _ (fun _ _ _ z => nomatch z) (s9 _ _ hpa)), x1 _ _ (fun _ z => nomatch z) (up _ _ (fun _ _ _ z => nomatch z) g1),
                  paired_mem (fun kv q hkv z => let ⟨h1, l, F, h2, h3, h4⟩ := z; ⟨h1, l, F, h2, x2 _ _ (g3 kv hkv l h2) (up _ _ (fun _ _ _ z => nomatch z) h3), h4⟩) g2⟩
                · rw [upd_ne cn]
                  exact s9 _ _ (by rw [hka c cn]; exact s08 _ _ hc)
                · exact (dta.same s9).on (fun c o hc => up _ _ (fun _ _ _ z => nomatch z) hc) fun kvs hc => up _ _ (fun _ _ _ z => nomatch z) hc
                · exact up _ _ (fun _ _ _ z => nomatch z) (s9 _ _ hpa)
                · exact up _ _ (fun _ _ _ z => nomatch z) g1
                · exact paired_on (fun _ _ z => z.on fun c o hc => up _ _ (fun _ _ _ z => nomatch z) hc) g2
    · have g1' : ¬ (1 : Int) ≤ (qs.map V.ref).length := fun q => g1 (decide_eq_true q)
      refine ⟨_, rfl, iteT ?_⟩
      refine ⟨_, rfl, a, _, rfl, hq, (by show 1 ≤ 1000; decide), fun a na => ?_⟩
      refine ⟨a, .int (qs.map V.ref).length, rfl, upd_same, fun d H' nd ne e => ⟨rfl, d, [("count", .int (qs.map V.ref).length)], ?_⟩⟩
      refine raise_asks na ?_ d H' nd ne e
      rw [hql]
      exact e1 (by omega)
end

theorem nf_places {s t : Str} {d p b : Addr} : ([("_start", V.str s), ("_end", .str t), ("_links", .ref d), ("_places", .ref p), ("_behind", .ref b)] : List (Str × V)).lookup ("_places" : Str) = some (.ref p) := by
  rfl

theorem NetAt.same {C : Addr} {H H' : Hp} {n : Addr} {s t : Str} {ts : List Ent} {ps : List Str} (h : NetAt C H n s t ts ps) (sm : Same H H') : NetAt C H' n s t ts ps := by
  obtain ⟨dx, d, p, b, kvs, h1, h2, h3, h4, h5⟩ := h
  exact ⟨dx, d, p, b, kvs, sm _ _ h1, h2.same sm, sm _ _ h3, sm _ _ h4, paired_on (fun _ _ z => z.on fun c o hc => sm _ _ hc) h5⟩

section
variable {P : Program} {w : World} {K : PySem.W.Frag} {mg : Str → Option Value} {base : Heap}
def spNPlaces (C : Addr) : Sp := fun vs H Q _ => ∃ (n : Addr) (s t : Str) (ts : List Ent) (ps : List Str), vs = [.ref n] ∧ NetAt C H n s t ts ps ∧ ∀ p, H p = some (.tup (ps.map V.str)) → Q (.ref p) H
theorem ok_nplaces (T : Txt K mg) : FnOk P w K mg base CX0 1 T.f_Network_places T.d_Network_places ["self"] (spNPlaces T.f_Network) := by
  refine T.F_Network_places.ok sc_Network_places (fun vs H Q E h => ?_) (fun cdv A outer s H vs Q E hr h => ?_)
  · obtain ⟨n, s, t, ts, ps, rfl, _⟩ := h
    rfl
  · obtain ⟨n, s, t, ts, ps, rfl, ⟨dx, d, pp, b, kvs, h1, h2, h3, h4, h5⟩, k⟩ := h
    refine ⟨_, (pss_one (ps_ret (pe_fld (pv 0) rfl))), ?_⟩
    exact ⟨_, rfl, n, T.f_Network, dx, _, _, rfl, h1, T.cl_Network, T.na_Network_places, nf_places, k pp h3⟩
end

section
variable {P : Program} {w : World} {K : PySem.W.Frag} {mg : Str → Option Value} {base : Heap}
def spNNames (C : Addr) : Sp := fun vs H Q _ => ∃ (n : Addr) (s t : Str) (ts : List Ent) (ps : List Str), vs = [.ref n] ∧ NetAt C H n s t ts ps ∧ ∀ q H', H q = none → Same H H' → H' q = some (.tup ((names ts).map V.str)) → Q (.ref q) H'
theorem ok_nnames (T : Txt K mg) : FnOk P w K mg base CX0 1 T.f_Network_names T.d_Network_names ["self"] (spNNames T.f_Network) := by
  refine T.F_Network_names.ok sc_Network_names (fun vs H Q E h => ?_) (fun cdv A outer s H vs Q E hr h => ?_)
  · obtain ⟨n, s, t, ts, ps, rfl, _⟩ := h
    rfl
  · obtain ⟨n, s, t, ts, ps, rfl, ⟨dx, d, pp, b, kvs, h1, h2, h3, h4, h5⟩, k⟩ := h
    refine ⟨_, (pss_one (ps_ret (pe_callTy (call_tupD rfl) (by rfl) T.n_tuple (by decide +kernel) (pa_cons (pe_fld (pv 0) rfl) pa_nil)))), ?_⟩
    obtain ⟨kvs2, hd, hp⟩ := h2
    refine ⟨_, rfl, n, T.f_Network, dx, _, .ref d, rfl, h1, T.cl_Network, T.na_Network_links, rfl, d, kvs2, rfl, .inl hd, fun q nq => k q _ nq (same_upd nq) ?_⟩
    rw [upd_same]
    have e : kvs2.map (fun kv => kV kv.1) = (kvs2.map (·.1)).map kV := by rw [List.map_map]; rfl
    rw [e, keys_inr hp, List.map_map]
    rfl
end

theorem mon_REq {C : Addr} : ∀ (a b : Addr) (H H' : Hp), Ext H H' → REq C a b H → REq C a b H' := fun a b H H' e ⟨t, c, ra, rb⟩ => ⟨t, c, ra.on e, rb.on e⟩
theorem ins_ref {C : Addr} {R : Addr → Addr → Hp → Prop} (x y : V) (H : Hp) (d : DIns C R x y H) : ∃ a b, x = .ref a ∧ y = .ref b := let ⟨a, b, _, _, _, _, hx, hy, _⟩ := d; ⟨a, b, hx, hy⟩
theorem nf_links {s t : Str} {d p b : Addr} : ([("_start", V.str s), ("_end", .str t), ("_links", .ref d), ("_places", .ref p), ("_behind", .ref b)] : List (Str × V)).lookup ("_links" : Str) = some (.ref d) := rfl

/-! ### a network's links by name -/
section
variable {P : Program} {w : World} {K : PySem.W.Frag} {mg : Str → Option Value} {base : Heap}
def spNGet (C D : Addr) : Sp := fun vs H Q E => ∃ (n : Addr) (s t : Str) (ts : List Ent) (ps : List Str) (z : Str), vs = [.ref n, .str z] ∧ NetAt C H n s t ts ps ∧
  (∀ e p, found ts z = some e → H p = some (.tup [.str e.1, .str e.2]) → Q (.ref p) H) ∧ (found ts z = none → Raised H "name" (.str z) D E)
theorem ok_nget (T : Txt K mg) : FnOk P w K mg base (L2.CX P w) 3 T.f_Network_getitem T.d_Network_getitem ["self", "name"] (spNGet T.f_Network T.f_UnknownName) := by
  have G_UnknownName_init : FnOk P w K mg base CX0 1 T.f_UnknownName_init T.d_UnknownName_init ["self", "name"] (spErr "name" T.f_UnknownName) := ok_eUnknownName T
  refine T.F_Network_getitem.okX sc_Network_getitem (fun vs H Q E h => ?_) (fun cdv A outer s H vs Q E hr h => ?_)
  · obtain ⟨n, s, t, ts, ps, z, rfl, _⟩ := h
    rfl
  · obtain ⟨n, s, t, ts, ps, z, rfl, ⟨dx, d, pp, b, kvs, h1, ⟨kvs2, h2, hp⟩, h3, h4, h5⟩, k, k2⟩ := h
    refine ⟨_, (pss_cons (ps_if (pt_cmp (pc_dnotin (hu_of hr) (pv 1) (pe_fld (pv 0) rfl)))
      (pss_one (ps_raise rfl (takes_of rfl rfl rfl rfl) (pmk_oex T.ox_UnknownName T.ix_UnknownName T.tx_UnknownName G_UnknownName_init (hr.mono (by decide)) T.b_UnknownName_init .nil pass0 rfl T.m_UnknownName (pa_cons (pv 1) pa_nil))))
      pss_nil)
    (pss_one (ps_ret (pe_dget (hu_of hr) (pe_fld (pv 0) rfl) (pv 1) (fun _ _ => rfl))))), ?_⟩
    refine ⟨_, rfl, _, rfl, n, T.f_Network, dx, _, _, rfl, h1, T.cl_Network, T.na_Network_links, nf_links, ?_⟩
    refine ⟨d, valV kvs2 (.inr z : Key), rfl, DGet.k (k := .inr z) h2, ?_⟩
    rcases val_found (n := z) hp with ⟨e1, e2⟩ | ⟨e, p, e1, e2, hpp⟩
    · rw [e2]
      refine ⟨_, rfl, iteT ?_⟩
      refine ⟨_, rfl, (by show 1 ≤ 1000; decide), fun a na => ?_⟩
      refine ⟨a, .str z, rfl, upd_same, fun d H' nd ne e => ⟨rfl, d, [("name", .str z)], ?_⟩⟩
      exact raise_asks na (k2 e1) d H' nd ne e
    · rw [e2]
      refine ⟨_, rfl, iteF ?_⟩
      refine ⟨_, rfl, n, T.f_Network, dx, _, _, rfl, h1, T.cl_Network, T.na_Network_links, nf_links, _, rfl, d, .ref p, rfl, ?_, k e p e1 hpp⟩
      rw [← e2]
      exact DGet.k (k := .inr z) h2
end

/-! ### dicts by name -/
section
variable {α : Type}
abbrev Tab (α : Type) := List (Str × α)
def nms (es : Tab α) : List Str := es.map (·.1)
def fnd (es : Tab α) (n : Str) : Option α := (es.find? fun e => decide (e.1 = n)).map (·.2)
def EntG (R : V → α → Prop) (kv : Key × V) (e : Str × α) : Prop := kv.1 = .inr e.1 ∧ R kv.2 e.2
theorem val_of {R : V → α → Prop} {n : Str} : ∀ {ks : List (Key × V)} {es : Tab α}, Paired (EntG R) ks es → (fnd es n = none ∧ valV ks (.inr n : Key) = none) ∨ ∃ x v, fnd es n = some x ∧ valV ks (.inr n : Key) = some v ∧ R v x
  | _, _, .nil => .inl ⟨rfl, rfl⟩
  | (k, v) :: ks, e :: es, .cons a r => by
    obtain ⟨h1, h2⟩ := a
    have h1 : k = .inr e.1 := h1
    subst h1
    by_cases q : e.1 = n
    · right
      refine ⟨e.2, v, ?_, valV_pos (by rw [q]), h2⟩
      unfold fnd
      rw [List.find?_cons_of_pos (by simp [q])]
      rfl
    · have f : fnd (e :: es) n = fnd es n := by
        unfold fnd
        rw [List.find?_cons_of_neg (by simp [q])]
      have g : valV ((.inr e.1, v) :: ks) (.inr n : Key) = valV ks (.inr n) := valV_neg (fun z => q (Sum.inr.inj z))
      rw [f, g]
      exact val_of r
theorem fnd_isSome {es : Tab α} {n : Str} : (fnd es n).isSome = decide (n ∈ nms es) := by
  unfold fnd nms
  induction es with
  | nil => rfl
  | cons e r ih =>
    by_cases q : e.1 = n
    · rw [List.find?_cons_of_pos (by simp [q])]
      simp [q]
    · rw [List.find?_cons_of_neg (by simp [q]), ih]
      have : ¬ n = e.1 := fun z => q z.symm
      simp [this]
theorem fnd_mem : ∀ {es : Tab α} {n : Str} {x : α}, (nms es).Nodup → (n, x) ∈ es → fnd es n = some x
  | [], _, _, _, h => by cases h
  | e :: r, n, x, nd, h => by
    unfold nms at nd
    rw [List.map_cons, List.nodup_cons] at nd
    unfold fnd
    rcases List.mem_cons.mp h with h | h
    · rw [List.find?_cons_of_pos (by simp [← h]), ← h]
      rfl
    · have e1 : e.1 ≠ n := fun z => nd.1 (by rw [z]; exact List.mem_map_of_mem (f := (·.1)) h)
      rw [List.find?_cons_of_neg (by simp [e1])]
      exact fnd_mem nd.2 h
theorem mem_fnd {es : Tab α} {n : Str} {x : α} (h : fnd es n = some x) : (n, x) ∈ es := by
  unfold fnd at h
  obtain ⟨e, he, ex⟩ := Option.map_eq_some_iff.mp h
  have := List.find?_some he
  have e1 : e.1 = n := of_decide_eq_true this
  rw [← e1, ← ex]
  exact List.mem_of_find?_eq_some he
theorem fnd_perm {es fs : Tab α} (p : es.Perm fs) (nd : (nms es).Nodup) (n : Str) : fnd es n = fnd fs n := by
  have nd' : (nms fs).Nodup := (List.Perm.nodup_iff (List.Perm.map (fun e : Str × α => e.1) p)).mp nd
  cases h : fnd es n with
  | some x => exact (fnd_mem nd' (p.mem_iff.mp (mem_fnd h))).symm
  | none =>
    cases h' : fnd fs n with
    | none => rfl
    | some x =>
      have := fnd_mem nd (p.mem_iff.mpr (mem_fnd h'))
      rw [h] at this
      cases this
theorem keysG {R : V → α → Prop} : ∀ {ks : List (Key × V)} {es : Tab α}, Paired (EntG R) ks es → (ks.map fun kv => kV kv.1) = (nms es).map V.str
  | _, _, .nil => rfl
  | (k, v) :: ks, e :: es, .cons a r => by
    have h1 : k = .inr e.1 := a.1
    subst h1
    show kV (.inr e.1) :: (ks.map fun kv => kV kv.1) = _
    rw [keysG r]
    rfl
theorem keysI {R : V → α → Prop} : ∀ {ks : List (Key × V)} {es : Tab α}, Paired (EntG R) ks es → (ks.map (·.1)) = (nms es).map (fun n => (.inr n : Key))
  | _, _, .nil => rfl
  | (k, v) :: ks, e :: es, .cons a r => by
    have h1 : k = .inr e.1 := a.1
    subst h1
    show (.inr e.1 : Key) :: (ks.map (·.1)) = _
    rw [keysI r]
    rfl
theorem keys_nodup {R : V → α → Prop} {ks : List (Key × V)} {es : Tab α} (p : Paired (EntG R) ks es) (nd : (nms es).Nodup) : (ks.map (·.1)).Nodup := by
  rw [keysI p]
  exact List.Pairwise.map _ (fun a b h z => h (Sum.inr.inj z)) nd
/-- stored under a name -/
def put (es : Tab α) (n : Str) (x : α) : Tab α := if n ∈ nms es then es.map (fun q => if q.1 = n then (q.1, x) else q) else es ++ [(n, x)]
theorem put_ok {R : V → α → Prop} {ks : List (Key × V)} {es : Tab α} {n : Str} {x : α} {v : V} (h : Paired (EntG R) ks es) (hv : R v x) : Paired (EntG R) (putK ks (.inr n : Key) v) (put es n x) := by
  have hany : (ks.any fun kv => decide (kv.1 = (.inr n : Key))) = decide (n ∈ nms es) := by
    rw [valV_any, ← fnd_isSome]
    rcases val_of (n := n) h with ⟨e1, e2⟩ | ⟨e, p, e1, e2, _⟩ <;> rw [e1, e2] <;> rfl
  unfold putK put
  by_cases hn : n ∈ nms es
  · rw [hany, decide_eq_true hn, if_pos rfl, if_pos hn]
    clear hany hn
    induction h with
    | nil => exact .nil
    | @cons a b as bs r rr ih =>
      refine .cons ?_ ih
      obtain ⟨h1, h2⟩ := r
      show EntG R (if a.1 = (.inr n : Key) then (a.1, v) else a) (if b.1 = n then (b.1, x) else b)
      by_cases hb : b.1 = n
      · rw [if_pos (by rw [h1, hb]), if_pos hb]
        exact ⟨by show a.1 = _; exact h1, hv⟩
      · rw [if_neg (fun z => hb (Sum.inr.inj (h1.symm.trans z))), if_neg hb]
        exact ⟨h1, h2⟩
  · rw [hany, decide_eq_false hn, if_neg Bool.false_ne_true, if_neg hn]
    exact paired_snoc ⟨rfl, hv⟩ h
theorem drop_ok {R : V → α → Prop} {n : Str} : ∀ {ks : List (Key × V)} {es : Tab α}, Paired (EntG R) ks es → Paired (EntG R) (dropK ks (.inr n : Key)) (es.filter fun e => decide (e.1 ≠ n))
  | _, _, .nil => .nil
  | (k, v) :: ks, e :: es, .cons a r => by
    have h1 : k = .inr e.1 := a.1
    subst h1
    have ih := drop_ok (n := n) r
    unfold dropK at ih ⊢
    by_cases q : e.1 = n
    · rw [List.filter_cons_of_neg (by simp [q]), List.filter_cons_of_neg (by simp [q])]
      exact ih
    · rw [List.filter_cons_of_pos (by simpa using fun z => q z), List.filter_cons_of_pos (by simpa using q)]
      exact .cons a ih
/-- two tables hold the same -/
def mEq [DecidableEq α] (es fs : Tab α) : Bool := decide (es.length = fs.length) && es.all fun e => decide (fnd fs e.1 = some e.2)
theorem mEq_perm [DecidableEq α] {es es' fs fs' : Tab α} (p : es.Perm es') (q : fs.Perm fs') (nd : (nms fs).Nodup) : mEq es fs = mEq es' fs' := by
  unfold mEq
  rw [p.length_eq, q.length_eq, p.all_eq]
  have : (fun e : Str × α => decide (fnd fs e.1 = some e.2)) = fun e => decide (fnd fs' e.1 = some e.2) := funext fun e => by rw [fnd_perm q nd]
  rw [this]
theorem mEq_self [DecidableEq α] {es : Tab α} (nd : (nms es).Nodup) : mEq es es = true := by
  unfold mEq
  rw [decide_eq_true rfl, Bool.true_and, List.all_eq_true]
  exact fun e he => decide_eq_true (fnd_mem nd he)
end
section
def DictN (RC : Addr) (H : Hp) (a : Addr) (es : Tab Rat) (n : Nat) : Prop := ∃ ks, H a = some (.dK ks) ∧ Paired (EntG fun v x => NV RC H v x n) ks es
theorem DictN.on {RC : Addr} {H H' : Hp} {a : Addr} {es : Tab Rat} {n : Nat} (d : DictN RC H a es n) (s : Same H H') : DictN RC H' a es n := let ⟨ks, e, p⟩ := d; ⟨ks, s _ _ e, paired_on (fun _ _ ⟨h1, h2⟩ => ⟨h1, h2.on s⟩) p⟩
end

/-! ### what links bear: asked of each link; summed -/
section
variable {P : Program} {w : World} {K : PySem.W.Frag} {mg : Str → Option Value} {base : Heap}
/-- the first name without a load -/
def missing (es : Tab Rat) (ts : List Ent) : Option Str := (names ts).find? fun n => !decide (n ∈ nms es)
theorem val_nms {R : V → Rat → Prop} {ks : List (Key × V)} {es : Tab Rat} {n : Str} (p : Paired (EntG R) ks es) : (valV ks (.inr n : Key)).isSome = decide (n ∈ nms es) := by
  rw [← fnd_isSome]
  rcases val_of (n := n) p with ⟨e1, e2⟩ | ⟨x, v, e1, e2, _⟩
  · rw [e1, e2]; rfl
  · rw [e1, e2]; rfl
def spCLoads (C RC D : Addr) : Sp := fun vs H Q E => ∃ (n d : Addr) (s t : Str) (ts : List Ent) (ps : List Str) (es : Tab Rat) (m : Nat), vs = [.ref n, .ref d] ∧ NetAt C H n s t ts ps ∧ DictN RC H d es m ∧
  (∀ z, missing es ts = some z → Raised H "name" (.str z) D E) ∧ (missing es ts = none → ∀ H', Same H H' → Q .non H')
theorem ok_cloads (T : Txt K mg) : FnOk P w K mg base (L2.CX P w) 3 T.f_check_loads T.d_check_loads ["network", "loads"] (spCLoads T.f_Network T.f_Ratio T.f_UnknownName) := by
  have G_UnknownName_init : FnOk P w K mg base CX0 1 T.f_UnknownName_init T.d_UnknownName_init ["self", "name"] (spErr "name" T.f_UnknownName) := ok_eUnknownName T
  have G_Network_names : FnOk P w K mg base CX0 1 T.f_Network_names T.d_Network_names ["self"] (spNNames T.f_Network) := ok_nnames T
  refine T.F_check_loads.okX sc_check_loads (fun vs H Q E h => ?_) (fun cdv A outer s H vs Q E hr h => ?_)
  · obtain ⟨n, d, s, t, ts, ps, es, m, rfl, _⟩ := h
    rfl
  · obtain ⟨n, d, s, t, ts, ps, es, m, rfl, hn, hd, k1, k2⟩ := h
    refine ⟨_, (pss_one (ps_for (passes_of rfl) rfl (pi_tup (pe_prop (pv 0) T.cl_Network T.p_Network_names G_Network_names (hr.mono (by decide)) T.b_Network_names .nil pass0 rfl)) (pg_name (i := 2) sc_check_loads.nd rfl (Or.inl rfl))
      (pss_one (ps_if (pt_cmp (pc_dnotin (hu_of hr) (pv 2) (pv 1)))
      (pss_one (ps_raise rfl (takes_of rfl rfl rfl rfl) (pmk_oex T.ox_UnknownName T.ix_UnknownName T.tx_UnknownName G_UnknownName_init (hr.mono (by decide)) T.b_UnknownName_init .nil pass0 rfl T.m_UnknownName (pa_cons (pv 2) pa_nil))))
      pss_nil)))), ?_⟩
    obtain ⟨dx, d0, pp, b, kvs, h1, _⟩ := id hn
    obtain ⟨ks, ed, pd⟩ := id hd
    refine ⟨_, rfl, n, dx, _, rfl, h1, n, s, t, ts, ps, rfl, hn, fun q H1 nq s1 eq => ?_⟩
    refine ⟨q, rfl, ⟨_, SqT.of eq⟩, ?_⟩
    refine for_tup (K := K) (a := q) (xs := (names ts).map V.str) (fun i σ H' => ∃ x2, σ = [some (.ref n), some (.ref d), x2] ∧ Same H1 H' ∧ ∀ z ∈ (names ts).take i, z ∈ nms es) ⟨_, rfl, Same.refl _, fun z hz => by simp at hz⟩ (fun i σ H' _ ⟨_, _, s, _⟩ => SqT.of (s _ _ eq)) ?_ ?_
    · rintro i v σ H' hi ⟨x2, rfl, s2, hz⟩
      rw [List.getElem?_map] at hi
      cases ez : (names ts)[i]? with
      | none => rw [ez] at hi; cases hi
      | some z =>
        rw [ez] at hi
        obtain rfl := Option.some.inj hi
        have s12 := s1.trans s2
        refine ⟨_, rfl, _, rfl, d, _, rfl, DGet.k (k := .inr z) (s12 _ _ ed), ?_⟩
        rw [val_nms pd]
        by_cases hm : z ∈ nms es
        · rw [decide_eq_true hm]
          refine ⟨_, rfl, iteF ⟨_, rfl, s2, fun y hy => ?_⟩⟩
          rw [take_more ez] at hy
          rcases List.mem_append.mp hy with hy | hy
          · exact hz y hy
          · rw [List.mem_singleton.mp hy]; exact hm
        · rw [decide_eq_false hm]
          refine ⟨_, rfl, iteT ?_⟩
          refine ⟨_, rfl, (by show 1 ≤ 1000; decide), fun a na => ?_⟩
          refine ⟨a, .str z, rfl, upd_same, fun dd H' nd ne eq => ⟨rfl, dd, [("name", .str z)], ?_⟩⟩
          exact raise_asks na ((k1 z (find_at (fun y hy => by rw [decide_eq_true (hz y hy)]; rfl) ez (by rw [decide_eq_false hm]; rfl))).on s12) dd H' nd ne eq
    · rintro σ H' ⟨x2, rfl, s2, hz⟩
      refine k2 ?_ _ (s1.trans s2)
      unfold missing
      rw [List.find?_eq_none]
      intro z hz'
      rw [List.length_map, List.take_length] at hz
      rw [decide_eq_true (hz z hz')]
      decide
end

section
variable {P : Program} {w : World} {K : PySem.W.Frag} {mg : Str → Option Value} {base : Heap}
theorem seqIx {n i : Nat} (h : i < n) : seqIndex? (i : Int) n = some i := by
  unfold seqIndex?
  rw [if_neg (show ¬ (i : Int) < 0 by omega)]
  dsimp only
  rw [if_pos (by simp; exact h)]
  rfl
theorem erase_at {α : Type} : ∀ {l : List α} {k : Nat} {y : α}, l[k]? = some y → (y :: l.eraseIdx k).Perm l
  | [], k, y, h => by simp at h
  | x :: l, 0, y, h => by
    obtain rfl : x = y := Option.some.inj h
    exact List.Perm.refl _
  | x :: l, k + 1, y, h => by
    have ih := erase_at (l := l) (k := k) (y := y) h
    exact (List.Perm.swap x y _).trans (ih.cons x)
def spShuf : Sp := fun vs H Q _ => ∃ (G : Hp) (st a : Addr) (m : Nat) (xs : List V), vs = [.ref st, .ref a] ∧ DSt G H st m ∧ m < 900000 ∧ G a = some (.lst xs) ∧ xs.length ≤ 30 ∧
  ∀ (l : Addr) (ys : List V) (H' : Hp), G l = none → DSt (upd G l (.lst ys)) H' st (m + xs.length) → ys.Perm xs → Q (.ref l) H'
theorem ok_shuf (T : Txt K mg) : FnOk P w K mg base CX0 2 T.f_shuffled T.d_shuffled ["_law_state", "_law_items"] spShuf := by
  have G_take : FnOk P w K mg base CX0 1 T.f_take T.d_take ["_law_state", "_law_limit"] spTake := ok_take T
  refine T.F_shuffled.ok sc_shuffled (fun vs H Q E h => ?_) (fun cdv A outer s H vs Q E hr h => ?_)
  · obtain ⟨G, st, a, m, xs, rfl, _⟩ := h
    rfl
  · obtain ⟨G, st, a, m, xs, rfl, d0, hm, ha, hx, k⟩ := h
    refine ⟨_, (pss_cons (ps_set (i := 2) sc_shuffled.nd rfl (Or.inl rfl) (pe_callTy call_list_of (by rfl) T.n_list (by decide +kernel) (pa_cons (pv 1) pa_nil)))
    (pss_cons (ps_set (i := 3) sc_shuffled.nd rfl (Or.inl rfl) (pe_lst pa_nil))
    (C8.pss_cut (ps_for PassesOwn.never rfl (pi_range1 rfl T.n_range (pa_cons (pe_callB call_len_seq (by rfl) T.n_len (by decide +kernel) (pa_cons (pv 1) pa_nil)) pa_nil)) (pg_name (i := 4) sc_shuffled.nd rfl (Or.inl rfl))
      (pss_one (ps_expr (pe_bm PySem.F.plainAttrs_list PySem.F.slot_list_append PySem.F.type_list_append mt_append (pv 3) (pa_cons (pe_bm PySem.F.plainAttrs_list PySem.F.slot_list_pop PySem.F.type_list_pop mt_popAt (pv 2) (pa_cons (pe_call G_take (hr.mono (by decide)) rfl T.m_take T.F_take.kp T.b_take .nil pass0 (pa_cons (pv 0) (pa_cons (pe_callB call_len_seq (by rfl) T.n_len (by decide +kernel) (pa_cons (pv 2) pa_nil)) pa_nil))) pa_nil)) pa_nil)))))
    (pss_one (ps_ret (pv 3)))))), ?_⟩
    refine ⟨_, rfl, a, _, rfl, .inl (SqL.of (d0.same _ _ ha)), fun R nR => ?_⟩
    have d1 := d0.new (o := .lst xs) nR
    refine ⟨Nat.zero_le _, fun L nL => ?_⟩
    have d2 := d1.new (o := .lst []) nL
    have nRG := d0.free nR
    have LR : L ≠ R := fun z => by rw [z, upd_same] at nL; cases nL
    rw [upd_ne LR] at nL
    have nLG := d0.free nL
    have aR : a ≠ R := fun z => by rw [z, nRG] at ha; cases ha
    have aL : a ≠ L := fun z => by rw [z, nLG] at ha; cases ha
    refine ⟨fun σ H' => ∃ x4 ys, σ = [some (.ref st), some (.ref a), some (.ref R), some (.ref L), x4] ∧ DSt (upd (upd G R (.lst [])) L (.lst ys)) H' st (m + xs.length) ∧ ys.Perm xs, ?_, ?_⟩
    · refine ⟨_, rfl, a, _, rfl, .inl (SqL.of (d2.same a _ (by rw [upd_ne aL, upd_ne aR]; exact ha))), _, rfl, by omega, by omega, ?_⟩
      refine for_range (lo := 0) (n := xs.length) (fun i σ H' => ∃ x4 ys zs, σ = [some (.ref st), some (.ref a), some (.ref R), some (.ref L), x4] ∧ DSt (upd (upd G R (.lst zs)) L (.lst ys)) H' st (m + i) ∧ (ys ++ zs).Perm xs ∧ ys.length = i) ⟨_, [], xs, rfl, d2, List.Perm.refl _, rfl⟩ ?_ ?_
      · rintro i σ H' hi ⟨x4, ys, zs, rfl, d, pm, hy⟩
        have hlen : ys.length + zs.length = xs.length := by rw [← List.length_append]; exact pm.length_eq
        have hR : (upd (upd G R (.lst zs)) L (.lst ys)) R = some (.lst zs) := by rw [upd_ne LR.symm, upd_same]
        have hL : (upd (upd G R (.lst zs)) L (.lst ys)) L = some (.lst ys) := upd_same
        refine ⟨_, rfl, .inl ⟨rfl, _, SqL.of (d.same _ _ hL)⟩, _, rfl, .inl ⟨rfl, _, SqL.of (d.same _ _ hR)⟩, _, rfl, _, rfl, R, _, rfl, .inl (SqL.of (d.same _ _ hR)), _, st, m + i, _, rfl, d, by omega, by omega, Int.lt_of_le_of_lt (b := 100) (by omega) (by decide), fun rp H1 r0 r1 d1 => ?_⟩
        obtain ⟨rn, rfl⟩ : ∃ rn : Nat, rp = (rn : Int) := ⟨rp.toNat, by omega⟩
        have hrn : rn < zs.length := by omega
        have hR1 := d1.same _ _ hR
        have hzn : zs[rn]? = some zs[rn] := List.getElem?_eq_getElem hrn
        refine ⟨R, zs, _, rn, zs[rn], rfl, rfl, hR1, by omega, by omega, seqIx hrn, hzn, ?_⟩
        have d2 := d1.put (p := R) (o := .lst (zs.eraseIdx rn)) hR
        have hL2 : (upd (upd (upd G R (.lst zs)) L (.lst ys)) R (.lst (zs.eraseIdx rn))) L = some (.lst ys) := by rw [upd_ne LR]; exact hL
        refine ⟨L, ys, zs[rn], rfl, rfl, d2.same _ _ hL2, small1000 (by omega), ?_⟩
        have d3 := d2.put (p := L) (o := .lst (ys ++ [zs[rn]])) hL2
        refine ⟨_, ys ++ [zs[rn]], zs.eraseIdx rn, rfl, ?_, ?_, by rw [List.length_append, hy]; rfl⟩
        · refine (d3.less fun c o hc => ?_).mono (by omega)
          by_cases e : c = L
          · rw [e] at hc ⊢; rw [upd_same] at hc ⊢; exact hc
          · rw [upd_ne e] at hc ⊢
            by_cases e2 : c = R
            · rw [e2] at hc ⊢; rw [upd_same] at hc ⊢; exact hc
            · rw [upd_ne e2] at hc ⊢
              rw [upd_ne e, upd_ne e2]; exact hc
        · rw [List.append_assoc]
          exact (List.Perm.append_left ys (erase_at hzn)).trans pm
      · rintro σ H' ⟨x4, ys, zs, rfl, d, pm, hy⟩
        have hz : zs = [] := by
          have := pm.length_eq
          rw [List.length_append, hy] at this
          cases zs with
          | nil => rfl
          | cons z r => rw [List.length_cons] at this; omega
        subst hz
        rw [List.append_nil] at pm
        exact ⟨x4, ys, rfl, d, pm⟩
    · rintro σ H' ⟨x4, ys, rfl, d, pm⟩
      refine ⟨_, rfl, k L ys H' nLG (d.less fun c o hc => ?_) pm⟩
      by_cases e : c = L
      · rw [e] at hc ⊢; exact (upd_same).trans (upd_same.symm.trans hc)
      · rw [upd_ne e] at hc ⊢
        rw [upd_ne (fun z => by rw [z, nRG] at hc; cases hc)]
        exact hc
end

/-! ### a grown network, by numbers -/
inductive Ld (ps : List (Nat × Nat)) : Nat → Nat → Prop
  | one {p : Nat × Nat} : p ∈ ps → Ld ps p.1 p.2
  | more {a : Nat} {p : Nat × Nat} : Ld ps a p.1 → p ∈ ps → Ld ps a p.2
theorem Ld.trans {ps : List (Nat × Nat)} {a b c : Nat} (h : Ld ps a b) (h2 : Ld ps b c) : Ld ps a c := by
  induction h2 with
  | one he => exact .more h he
  | more _ he ih => exact .more (ih h) he
theorem Ld.sub {ps qs : List (Nat × Nat)} {a b : Nat} (h : Ld ps a b) (s : ∀ p ∈ ps, Ld qs p.1 p.2) : Ld qs a b := by
  induction h with
  | one he => exact s _ he
  | more _ he ih => exact ih.trans (s _ he)
theorem Ld.edge {ps : List (Nat × Nat)} {a b : Nat} (h : (a, b) ∈ ps) : Ld ps a b := .one h
structure Grown (ps : List (Nat × Nat)) (ord : List Nat) : Prop where
  nd : ord.Nodup
  all : ∀ v, v ∈ ord ↔ v < ord.length
  two : 2 ≤ ord.length
  up : ∀ p ∈ ps, ∃ i j : Nat, ord[i]? = some p.1 ∧ ord[j]? = some p.2 ∧ i < j
  front : ∀ v ∈ ord, v = 0 ∨ Ld ps 0 v
  back : ∀ v ∈ ord, v = 1 ∨ Ld ps v 1
theorem Grown.start : Grown [(0, 1)] [0, 1] where
  nd := by decide
  all := fun v => by
    rw [List.mem_cons, List.mem_singleton]
    show _ ↔ v < 2
    omega
  two := Nat.le_refl _
  up := fun p hp => by
    rw [List.mem_singleton.mp hp]
    exact ⟨0, 1, rfl, rfl, by decide⟩
  front := fun v hv => by
    rcases List.mem_cons.mp hv with h | h
    · exact .inl h
    · rw [List.mem_singleton.mp h]
      exact .inr (.edge (List.mem_singleton.mpr rfl))
  back := fun v hv => by
    rcases List.mem_cons.mp hv with h | h
    · rw [h]
      exact .inr (.edge (List.mem_singleton.mpr rfl))
    · exact .inl (List.mem_singleton.mp h)
/-- a link more forward -/
theorem Grown.add {ps : List (Nat × Nat)} {ord : List Nat} (g : Grown ps ord) {a b i j : Nat} (hi : ord[i]? = some a) (hj : ord[j]? = some b) (h : i < j) : Grown (ps ++ [(a, b)]) ord where
  nd := g.nd
  all := g.all
  two := g.two
  up := fun p hp => by
    rcases List.mem_append.mp hp with hp | hp
    · exact g.up p hp
    · rw [List.mem_singleton.mp hp]
      exact ⟨i, j, hi, hj, h⟩
  front := fun v hv => (g.front v hv).imp id fun z => z.sub fun p hp => .one (List.mem_append_left _ hp)
  back := fun v hv => (g.back v hv).imp id fun z => z.sub fun p hp => .one (List.mem_append_left _ hp)
def insAt (ord : List Nat) (pos x : Nat) : List Nat := ord.take pos ++ [x] ++ ord.drop pos
theorem ins_lt {ord : List Nat} {pos x i v : Nat} (hp : pos ≤ ord.length) (hi : ord[i]? = some v) (h : i < pos) : (insAt ord pos x)[i]? = some v := by
  unfold insAt
  rw [List.append_assoc, List.getElem?_append_left (by rw [List.length_take]; omega), List.getElem?_take_of_lt h]
  exact hi
theorem ins_at {ord : List Nat} {pos x : Nat} (hp : pos ≤ ord.length) : (insAt ord pos x)[pos]? = some x := by
  unfold insAt
  have e : (ord.take pos).length = pos := by rw [List.length_take]; omega
  rw [List.append_assoc, List.getElem?_append_right (by omega), e, Nat.sub_self]
  rfl
theorem ins_ge {ord : List Nat} {pos x i v : Nat} (hp : pos ≤ ord.length) (hi : ord[i]? = some v) (h : pos ≤ i) : (insAt ord pos x)[i + 1]? = some v := by
  unfold insAt
  have e : (ord.take pos).length = pos := by rw [List.length_take]; omega
  rw [List.getElem?_append_right (by rw [List.length_append, e]; show pos + 1 ≤ i + 1; omega), List.length_append, e, List.getElem?_drop]
  show ord[pos + (i + 1 - (pos + 1))]? = some v
  rw [show pos + (i + 1 - (pos + 1)) = i from by omega]
  exact hi
theorem ins_mem {ord : List Nat} {pos x v : Nat} : v ∈ insAt ord pos x ↔ v ∈ ord ∨ v = x := by
  unfold insAt
  rw [List.mem_append, List.mem_append, List.mem_singleton]
  constructor
  · rintro ((h | h) | h)
    · exact .inl (List.mem_of_mem_take h)
    · exact .inr h
    · exact .inl (List.mem_of_mem_drop h)
  · rintro (h | h)
    · rw [← List.take_append_drop pos ord] at h
      rcases List.mem_append.mp h with h | h
      · exact .inl (.inl h)
      · exact .inr h
    · exact .inl (.inr h)
theorem ins_len {ord : List Nat} {pos x : Nat} : (insAt ord pos x).length = ord.length + 1 := by
  unfold insAt
  rw [List.length_append, List.length_append, List.length_take, List.length_drop]
  show min pos ord.length + 1 + _ = _
  omega
theorem ins_perm (ord : List Nat) (pos x : Nat) : (insAt ord pos x).Perm (x :: ord) := by
  unfold insAt
  have p : (ord.take pos ++ [x] ++ ord.drop pos).Perm ([x] ++ (ord.take pos ++ ord.drop pos)) := by
    rw [← List.append_assoc]
    exact (List.perm_append_comm).append_right _
  rw [List.take_append_drop] at p
  exact p
/-- the link at a spot is split by a new place -/
theorem Grown.split {ps : List (Nat × Nat)} {ord : List Nat} (g : Grown ps ord) {sp a b i j pos : Nat} (hs : ps[sp]? = some (a, b)) (hi : ord[i]? = some a) (hj : ord[j]? = some b) (h1 : i < pos) (h2 : pos ≤ j) :
    Grown (ps.set sp (a, ord.length) ++ [(ord.length, b)]) (insAt ord pos ord.length) := by
  have hjl := (List.getElem?_eq_some_iff.mp hj).1
  have hp : pos ≤ ord.length := by omega
  have hfresh : ord.length ∉ ord := fun z => Nat.lt_irrefl _ ((g.all _).mp z)
  have hsl := (List.getElem?_eq_some_iff.mp hs).1
  have m1 : (a, ord.length) ∈ ps.set sp (a, ord.length) ++ [(ord.length, b)] := List.mem_append_left _ (List.mem_of_getElem? (i := sp) (by rw [List.getElem?_set_self hsl]))
  have m2 : (ord.length, b) ∈ ps.set sp (a, ord.length) ++ [(ord.length, b)] := List.mem_append_right _ (List.mem_singleton.mpr rfl)
  have lift : ∀ p ∈ ps, Ld (ps.set sp (a, ord.length) ++ [(ord.length, b)]) p.1 p.2 := by
    intro p hpm
    obtain ⟨k, hk⟩ := List.mem_iff_getElem?.mp hpm
    by_cases e : k = sp
    · rw [e, hs] at hk
      rw [← Option.some.inj hk]
      exact .more (p := (ord.length, b)) (.one m1) m2
    · exact .one (List.mem_append_left _ (List.mem_of_getElem? (i := k) (by rw [List.getElem?_set_ne (Ne.symm e)]; exact hk)))
  have shift : ∀ {k v : Nat}, ord[k]? = some v → (insAt ord pos ord.length)[if k < pos then k else k + 1]? = some v := by
    intro k v hk
    split
    · exact ins_lt hp hk (by assumption)
    · exact ins_ge hp hk (by omega)
  have ha : a ∈ ord := List.mem_of_getElem? hi
  have hb : b ∈ ord := List.mem_of_getElem? hj
  refine ⟨?_, ?_, ?_, ?_, ?_, ?_⟩
  · exact (ins_perm ord pos ord.length).nodup_iff.mpr (List.nodup_cons.mpr ⟨hfresh, g.nd⟩)
  · intro v
    rw [ins_mem, ins_len, g.all]
    omega
  · rw [ins_len]; have := g.two; omega
  · intro p hpm
    rcases List.mem_append.mp hpm with h | h
    · rcases List.mem_or_eq_of_mem_set h with h | h
      · obtain ⟨x, y, e1, e2, l⟩ := g.up p h
        refine ⟨_, _, shift e1, shift e2, ?_⟩
        split <;> split <;> omega
      · rw [h]
        exact ⟨i, pos, ins_lt hp hi h1, ins_at hp, h1⟩
    · rw [List.mem_singleton.mp h]
      exact ⟨pos, j + 1, ins_at hp, ins_ge hp hj h2, by omega⟩
  · intro v hv
    rcases ins_mem.mp hv with h | h
    · exact (g.front v h).imp id fun z => z.sub lift
    · rw [h]
      refine .inr ?_
      rcases g.front a ha with z | z
      · rw [← z]; exact .one m1
      · exact (z.sub lift).trans (.one m1)
  · intro v hv
    rcases ins_mem.mp hv with h | h
    · exact (g.back v h).imp id fun z => z.sub lift
    · rw [h]
      refine .inr ?_
      rcases g.back b hb with z | z
      · rw [← z]; exact .one m2
      · exact Ld.trans (.one m2) (z.sub lift)

/-- pairs of numbers in a list -/
def PairAt (H : Hp) (q : Addr) (p : Nat × Nat) : Prop := H q = some (.tup [.int (p.1 : Int), .int (p.2 : Int)])
def PairsAt (H : Hp) (l : Addr) (ps : List (Nat × Nat)) : Prop := ∃ qs : List Addr, H l = some (.lst (qs.map V.ref)) ∧ Paired (PairAt H) qs ps
theorem PairsAt.on {H H' : Hp} {l : Addr} {ps : List (Nat × Nat)} (h : PairsAt H l ps) (s : Same H H') : PairsAt H' l ps := let ⟨qs, a, b⟩ := h; ⟨qs, s _ _ a, paired_on (fun _ _ e => s _ _ e) b⟩
structure GrownAt (G0 G : Hp) (o l : Addr) (ps : List (Nat × Nat)) (ord : List Nat) : Prop where
  sm : Same G0 G
  fo : G0 o = none
  fl : G0 l = none
  ne : o ≠ l
  ho : G o = some (.lst (ord.map fun v : Nat => V.int (v : Int)))
  hp : PairsAt G l ps
/-- a new tuple comes, the list of pairs changes -/
theorem pairs_put {G : Hp} {l q : Addr} {qs qs' : List Addr} {ps' : List (Nat × Nat)} (hl : G l = some (.lst (qs.map V.ref))) (h : Paired (PairAt G) qs' ps') : PairsAt (upd G l (.lst (qs'.map V.ref))) l ps' :=
  ⟨qs', upd_same, paired_on (fun a b e => by show upd _ _ _ _ = _; rw [upd_ne (fun z => by rw [z] at e; rw [show G l = _ from e] at hl; cases hl)]; exact e) h⟩
theorem GrownAt.setP {G0 G : Hp} {o l : Addr} {ps ps' : List (Nat × Nat)} {ord : List Nat} {qs' : List Addr} (g : GrownAt G0 G o l ps ord) (h : Paired (PairAt G) qs' ps') : GrownAt G0 (upd G l (.lst (qs'.map V.ref))) o l ps' ord where
  sm := same_mut g.sm g.fl
  fo := g.fo
  fl := g.fl
  ne := g.ne
  ho := by rw [upd_ne g.ne]; exact g.ho
  hp := let ⟨qs, a, _⟩ := g.hp; pairs_put (q := l) a h
theorem GrownAt.setO {G0 G : Hp} {o l : Addr} {ps : List (Nat × Nat)} {ord ord' : List Nat} (g : GrownAt G0 G o l ps ord) : GrownAt G0 (upd G o (.lst (ord'.map fun v : Nat => V.int (v : Int)))) o l ps ord' where
  sm := same_mut g.sm g.fo
  fo := g.fo
  fl := g.fl
  ne := g.ne
  ho := upd_same
  hp := let ⟨qs, a, b⟩ := g.hp; ⟨qs, by rw [upd_ne g.ne.symm]; exact a, paired_on (fun x y e => by show upd _ _ _ _ = _; rw [upd_ne (fun z => by rw [z] at e; have e2 : G o = _ := e; rw [g.ho] at e2; cases e2)]; exact e) b⟩
theorem GrownAt.new {G0 G : Hp} {o l q : Addr} {u : HO} {ps : List (Nat × Nat)} {ord : List Nat} (g : GrownAt G0 G o l ps ord) (nq : G q = none) : GrownAt G0 (upd G q u) o l ps ord where
  sm := g.sm.trans (same_upd nq)
  fo := g.fo
  fl := g.fl
  ne := g.ne
  ho := same_upd nq _ _ g.ho
  hp := g.hp.on (same_upd nq)
theorem app_pair {G0 G1 H3 : Hp} {st o l t : Addr} {m : Nat} {ps : List (Nat × Nat)} {ord : List Nat} {qs : List Addr} (d : DSt G1 H3 st m) (ga : GrownAt G0 G1 o l ps ord) (hl : G1 l = some (.lst (qs.map V.ref))) (hp : Paired (PairAt G1) qs ps) (nt : H3 t = none) (a b : Nat) :
    DSt (upd (upd G1 t (.tup [.int (a : Int), .int (b : Int)])) l (.lst (qs.map V.ref ++ [.ref t]))) (upd (upd H3 t (.tup [.int (a : Int), .int (b : Int)])) l (.lst (qs.map V.ref ++ [.ref t]))) st m ∧
      GrownAt G0 (upd (upd G1 t (.tup [.int (a : Int), .int (b : Int)])) l (.lst (qs.map V.ref ++ [.ref t]))) o l (ps ++ [(a, b)]) ord := by
  have ntG := d.free nt
  have lt : l ≠ t := ne_of_none hl ntG
  refine ⟨(d.new nt).put (p := l) (u := .lst (qs.map V.ref)) (by rw [upd_ne lt]; exact hl), ?_⟩
  have hp' : Paired (PairAt (upd G1 t (.tup [.int (a : Int), .int (b : Int)]))) qs ps := paired_on (fun _ _ e => same_upd ntG _ _ e) hp
  have h1 : PairAt (upd G1 t (.tup [.int (a : Int), .int (b : Int)])) t (a, b) := upd_same
  have g := (ga.new (u := .tup [.int (a : Int), .int (b : Int)]) ntG).setP (paired_snoc h1 hp')
  rw [List.map_append] at g
  exact g
theorem index_ints {ord : List Nat} (nd : ord.Nodup) {v j : Nat} (hj : ord[j]? = some v) : (ord.map fun v : Nat => V.int (v : Int))[j]? = some (V.int (v : Int)) ∧ eqV (V.int (v : Int)) (V.int (v : Int)) = true ∧ ∀ (m : Nat) (z' : V), m < j → (ord.map fun v : Nat => V.int (v : Int))[m]? = some z' → eqV z' (V.int (v : Int)) = false := by
  refine ⟨by rw [List.getElem?_map, hj]; rfl, by show ((v : Int) == (v : Int)) = true; simp, fun m z' hm hz => ?_⟩
  rw [List.getElem?_map] at hz
  cases e : ord[m]? with
  | none => rw [e] at hz; cases hz
  | some x =>
    rw [e] at hz
    have ez : V.int (x : Int) = z' := Option.some.inj hz
    subst ez
    have hne : x ≠ v := fun z => by
      obtain ⟨h1, e1⟩ := List.getElem?_eq_some_iff.mp e
      obtain ⟨h2, e2⟩ := List.getElem?_eq_some_iff.mp hj
      exact List.pairwise_iff_getElem.mp nd m j h1 h2 hm (by rw [e1, e2, z])
    show ((x : Int) == (v : Int)) = false
    exact beq_false_of_ne (by omega)
theorem paired_set {α β : Type} {F : α → β → Prop} {a : α} {b : β} (h : F a b) : ∀ {xs : List α} {ys : List β} {i : Nat}, Paired F xs ys → Paired F (xs.set i a) (ys.set i b)
  | _, _, _, .nil => .nil
  | _ :: _, _ :: _, 0, .cons _ r => .cons h r
  | _ :: _, _ :: _, _ + 1, .cons p r => .cons p (paired_set h r)
theorem flat_nats (ord : List Nat) : (ord.map fun v : Nat => V.int (v : Int)).all flatV = true := by
  rw [List.all_map]
  exact List.all_eq_true.mpr fun _ _ => rfl

structure NamesOk (ws : List Str) (n : Nat) : Prop where
  len : ws.length = n
  nd : ws.Nodup
  ok : ∀ z ∈ ws, vn z = true ∧ Wn z

/-! ### links that make a network -/
structure NetOk (es : List Ent) (s t : Str) (mo : Nat) : Prop where
  few : 1 ≤ es.length
  nd : (names es).Nodup
  ok : ∀ e ∈ es, (vn e.1 = true ∧ vn e.2.1 = true ∧ vn e.2.2 = true) ∧ WnE e
  hs : vn s = true ∧ Wn s
  ht : vn t = true ∧ Wn t
  ne : s ≠ t
  acy : ∀ p, ¬ Lead es p p
  use : ∀ e ∈ es, Useful es s t e
  sp : ∃ sp : List Str, sp.length ≤ mo ∧ s ∈ sp ∧ t ∈ sp ∧ ∀ e ∈ es, e.2.1 ∈ sp ∧ e.2.2 ∈ sp
theorem Useful.mono {es fs : List Ent} {s t : Str} {e : Ent} (h : Useful es s t e) (m : ∀ e ∈ es, e ∈ fs) : Useful fs s t e := ⟨h.1.imp id fun z => z.mono m, h.2.imp id fun z => z.mono m⟩
theorem NetOk.perm {es fs : List Ent} {s t : Str} {mo : Nat} (h : NetOk es s t mo) (p : fs.Perm es) : NetOk fs s t mo where
  few := by rw [p.length_eq]; exact h.few
  nd := (p.map fun e : Ent => e.1).nodup_iff.mpr h.nd
  ok := fun e he => h.ok e (p.mem_iff.mp he)
  hs := h.hs
  ht := h.ht
  ne := h.ne
  acy := fun q z => h.acy q (z.mono fun e he => p.mem_iff.mp he)
  use := fun e he => (h.use e (p.mem_iff.mp he)).mono fun e he => p.mem_iff.mpr he
  sp := let ⟨sp, a, b, c, d⟩ := h.sp; ⟨sp, a, b, c, fun e he => d e (p.mem_iff.mp he)⟩
def rowAt (ls ws : List Str) (ps : List (Nat × Nat)) (k : Nat) : Ent := (ls.getD k "", ws.getD (ps.getD k (0, 0)).1 "", ws.getD (ps.getD k (0, 0)).2 "")
def rowsOf (ls ws : List Str) (ps : List (Nat × Nat)) : List Ent := (List.range ps.length).map (rowAt ls ws ps)
theorem getD_of {α : Type} {l : List α} {i : Nat} {x d : α} (h : l[i]? = some x) : l.getD i d = x := by rw [List.getD_eq_getElem?_getD, h]; rfl
theorem row_pair {ls ws : List Str} {ps : List (Nat × Nat)} {p : Nat × Nat} (h : p ∈ ps) : ∃ l, (l, ws.getD p.1 "", ws.getD p.2 "") ∈ rowsOf ls ws ps := by
  obtain ⟨k, hk⟩ := List.mem_iff_getElem?.mp h
  refine ⟨ls.getD k "", List.mem_map.mpr ⟨k, List.mem_range.mpr (List.getElem?_eq_some_iff.mp hk).1, ?_⟩⟩
  unfold rowAt
  rw [getD_of hk]
theorem row_of {ls ws : List Str} {ps : List (Nat × Nat)} {e : Ent} (h : e ∈ rowsOf ls ws ps) : ∃ p ∈ ps, e.2.1 = ws.getD p.1 "" ∧ e.2.2 = ws.getD p.2 "" ∧ ∃ k < ps.length, e.1 = ls.getD k "" := by
  obtain ⟨k, hk, rfl⟩ := List.mem_map.mp h
  have hk := List.mem_range.mp hk
  refine ⟨ps[k], List.getElem_mem hk, ?_, ?_, k, hk, rfl⟩
  · unfold rowAt; rw [getD_of (List.getElem?_eq_getElem hk)]
  · unfold rowAt; rw [getD_of (List.getElem?_eq_getElem hk)]
theorem lead_of {ls ws : List Str} {ps : List (Nat × Nat)} {a b : Nat} (h : Ld ps a b) : Lead (rowsOf ls ws ps) (ws.getD a "") (ws.getD b "") := by
  induction h with
  | one hp =>
    obtain ⟨l, hl⟩ := row_pair (ls := ls) (ws := ws) hp
    exact Lead.one hl
  | more _ hp ih =>
    obtain ⟨l, hl⟩ := row_pair (ls := ls) (ws := ws) hp
    exact Lead.more ih hl
theorem names_rows {ls ws : List Str} {ps : List (Nat × Nat)} (h : ls.length = ps.length) : names (rowsOf ls ws ps) = ls := by
  unfold names rowsOf
  rw [List.map_map]
  refine List.ext_getElem? fun k => ?_
  rw [List.getElem?_map]
  by_cases hk : k < ps.length
  · rw [List.getElem?_range hk, List.getElem?_eq_getElem (by omega)]
    show some (ls.getD k "") = _
    rw [getD_of (List.getElem?_eq_getElem (by omega))]
  · rw [List.getElem?_eq_none (by rw [List.length_range]; omega), List.getElem?_eq_none (by omega)]
    rfl
theorem getD_inj {ws : List Str} (nd : ws.Nodup) {a b : Nat} (ha : a < ws.length) (hb : b < ws.length) (h : ws.getD a "" = ws.getD b "") : a = b := by
  rw [getD_of (List.getElem?_eq_getElem ha), getD_of (List.getElem?_eq_getElem hb)] at h
  rcases Nat.lt_trichotomy a b with z | z | z
  · exact absurd h (List.pairwise_iff_getElem.mp nd a b ha hb z)
  · exact z
  · exact absurd h.symm (List.pairwise_iff_getElem.mp nd b a hb ha z)
theorem rows_ok {ls ws : List Str} {ps : List (Nat × Nat)} {ord : List Nat} {mo : Nat} (g : Grown ps ord) (hw : NamesOk ws ord.length) (hl : ls.length = ps.length) (nl : ls.Nodup) (okl : ∀ z ∈ ls, vn z = true ∧ Wn z) (hps : 1 ≤ ps.length) (hmo : ord.length ≤ mo) :
    NetOk (rowsOf ls ws ps) (ws.getD 0 "") (ws.getD 1 "") mo := by
  have two := g.two
  have inw : ∀ v ∈ ord, v < ws.length := fun v hv => by rw [hw.len]; exact (g.all v).mp hv
  have memw : ∀ {v : Nat}, v < ws.length → ws.getD v "" ∈ ws := fun {v} hv => by rw [getD_of (List.getElem?_eq_getElem hv)]; exact List.getElem_mem hv
  have okw : ∀ {v : Nat}, v < ws.length → vn (ws.getD v "") = true ∧ Wn (ws.getD v "") := fun hv => hw.ok _ (memw hv)
  have pin : ∀ p ∈ ps, p.1 ∈ ord ∧ p.2 ∈ ord := fun p hp => by
    obtain ⟨i, j, e1, e2, _⟩ := g.up p hp
    exact ⟨List.mem_of_getElem? e1, List.mem_of_getElem? e2⟩
  have up : ∀ {p q : Str}, Lead (rowsOf ls ws ps) p q → ∃ a b i j : Nat, p = ws.getD a "" ∧ q = ws.getD b "" ∧ ord[i]? = some a ∧ ord[j]? = some b ∧ i < j := by
    intro p q h
    induction h with
    | one he =>
      obtain ⟨p, hp, e1, e2, _⟩ := row_of he
      obtain ⟨i, j, h1, h2, l⟩ := g.up p hp
      exact ⟨p.1, p.2, i, j, e1, e2, h1, h2, l⟩
    | more _ he ih =>
      obtain ⟨a, b, i, j, e1, e2, h1, h2, l⟩ := ih
      obtain ⟨p, hp, f1, f2, _⟩ := row_of he
      obtain ⟨i', j', g1, g2, l'⟩ := g.up p hp
      have eb : b = p.1 := getD_inj hw.nd (inw b (List.mem_of_getElem? h2)) (inw _ (List.mem_of_getElem? g1)) (e2.symm.trans f1)
      have ej : j = i' := by
        rw [eb] at h2
        obtain ⟨x1, y1⟩ := List.getElem?_eq_some_iff.mp h2
        obtain ⟨x2, y2⟩ := List.getElem?_eq_some_iff.mp g1
        rcases Nat.lt_trichotomy j i' with z | z | z
        · exact absurd (y1.trans y2.symm) (List.pairwise_iff_getElem.mp g.nd j i' x1 x2 z)
        · exact z
        · exact absurd (y2.trans y1.symm) (List.pairwise_iff_getElem.mp g.nd i' j x2 x1 z)
      exact ⟨a, p.2, i, j', e1, f2, h1, g2, by omega⟩
  refine ⟨by unfold rowsOf; rw [List.length_map, List.length_range]; exact hps, by rw [names_rows hl]; exact nl, fun e he => ?_, okw (by rw [hw.len]; omega), okw (by rw [hw.len]; omega), fun z => ?_, fun p h => ?_, fun e he => ?_, ws, by rw [hw.len]; exact hmo, memw (by rw [hw.len]; omega), memw (by rw [hw.len]; omega), fun e he => ?_⟩
  · obtain ⟨p, hp, e1, e2, k, hk, e3⟩ := row_of he
    have h1 := okw (inw _ (pin p hp).1)
    have h2 := okw (inw _ (pin p hp).2)
    have h3 := okl (ls.getD k "") (by rw [getD_of (List.getElem?_eq_getElem (show k < ls.length by omega))]; exact List.getElem_mem _)
    rw [← e1] at h1
    rw [← e2] at h2
    rw [← e3] at h3
    exact ⟨⟨h3.1, h1.1, h2.1⟩, h3.2, h1.2, h2.2⟩
  · have := getD_inj hw.nd (by rw [hw.len]; omega) (by rw [hw.len]; omega) z
    omega
  · obtain ⟨a, b, i, j, e1, e2, h1, h2, l⟩ := up h
    have eb : a = b := getD_inj hw.nd (inw a (List.mem_of_getElem? h1)) (inw b (List.mem_of_getElem? h2)) (e1.symm.trans e2)
    rw [eb] at h1
    obtain ⟨x1, y1⟩ := List.getElem?_eq_some_iff.mp h1
    obtain ⟨x2, y2⟩ := List.getElem?_eq_some_iff.mp h2
    exact absurd (y1.trans y2.symm) (List.pairwise_iff_getElem.mp g.nd i j x1 x2 l)
  · obtain ⟨p, hp, e1, e2, _⟩ := row_of he
    obtain ⟨m1, m2⟩ := pin p hp
    refine ⟨?_, ?_⟩
    · rw [e1]
      exact (g.front _ m1).imp (fun z => by rw [z]) fun z => lead_of z
    · rw [e2]
      exact (g.back _ m2).imp (fun z => by rw [z]) fun z => lead_of z
  · obtain ⟨p, hp, e1, e2, _⟩ := row_of he
    obtain ⟨m1, m2⟩ := pin p hp
    rw [e1, e2]
    exact ⟨memw (inw _ m1), memw (inw _ m2)⟩
/-! what the checks of such links say -/
theorem bad_none {zs : List Str} (h : ∀ z ∈ zs, vn z = true) : bad zs = none := by
  unfold bad
  rw [List.find?_eq_none]
  intro z hz
  rw [h z hz]
  decide
theorem nm_none : ∀ {es : List Ent} {ks : List Str}, (names es).Nodup → (∀ e ∈ es, e.1 ∉ ks) → (∀ e ∈ es, vn e.1 = true ∧ vn e.2.1 = true ∧ vn e.2.2 = true) → nmErr ks es = none
  | [], _, _, _, _ => rfl
  | e :: r, ks, nd, hk, ok => by
    have nd' : (e.1 :: names r).Nodup := nd
    obtain ⟨n1, n2⟩ := List.nodup_cons.mp nd'
    obtain ⟨o1, o2, o3⟩ := ok e List.mem_cons_self
    unfold nmErr
    rw [if_pos o1, if_neg (hk e List.mem_cons_self), bad_none (zs := [e.2.1, e.2.2]) (fun z hz => by
      rcases List.mem_cons.mp hz with h | h
      · rw [h]; exact o2
      · rw [List.mem_singleton.mp h]; exact o3)]
    refine nm_none n2 (fun f hf z => ?_) fun f hf => ok f (List.mem_cons_of_mem _ hf)
    rcases List.mem_append.mp z with z | z
    · exact hk f (List.mem_cons_of_mem _ hf) z
    · exact n1 (List.mem_map.mpr ⟨f, hf, List.mem_singleton.mp z⟩)
theorem NetOk.early {es : List Ent} {s t : Str} {mo : Nat} (h : NetOk es s t mo) (h10 : es.length ≤ 10) : earlyErr es s t = none := by
  unfold earlyErr
  rw [if_pos ⟨h.few, h10⟩, bad_none (zs := [s, t]) (fun z hz => by
    rcases List.mem_cons.mp hz with e | e
    · rw [e]; exact h.hs.1
    · rw [List.mem_singleton.mp e]; exact h.ht.1)]
  show (if s = t then _ else _) = _
  rw [if_neg h.ne, nm_none h.nd (fun _ _ => List.not_mem_nil) fun e he => (h.ok e he).1]
theorem NetOk.late {es : List Ent} {s t : Str} {mo : Nat} (h : NetOk es s t mo) : lateErr es s t = none := by
  have h1 : rdErr es = none := by
    unfold rdErr
    rw [List.find?_eq_none.mpr fun e he z => ?_]
    · rfl
    · exact h.acy _ ((of_round z).trans (.one he))
  have h2 : useErr es s t = none := by
    unfold useErr
    rw [List.find?_eq_none.mpr fun e he => by rw [useful_yes (h.use e he)]; decide]
    rfl
  unfold lateErr
  rw [h1]
  show (match useErr es s t with | some z => _ | none => _) = _
  rw [h2]
theorem NetOk.eight {es : List Ent} {s t : Str} {mo : Nat} (h : NetOk es s t mo) {ps : List Str} (hp : Places es s t ps) : ps.length ≤ mo := by
  obtain ⟨sp, a, b, c, d⟩ := h.sp
  refine Nat.le_trans (nd_len (places_nodup hp h.ne) fun q hq => ?_) a
  obtain ⟨ys, rfl, _, _, hm⟩ := hp
  rcases List.mem_cons.mp hq with z | z
  · rw [z]; exact b
  · rcases List.mem_append.mp z with z | z
    · have := ((hm q).mp z).1
      unfold endsOf at this
      obtain ⟨e, he, hq⟩ := List.mem_flatMap.mp this
      rcases List.mem_cons.mp hq with z | z
      · rw [z]; exact (d e he).1
      · rw [List.mem_singleton.mp z]; exact (d e he).2
    · rw [List.mem_singleton.mp z]; exact c

section
variable {P : Program} {w : World} {K : PySem.W.Frag} {mg : Str → Option Value} {base : Heap}
def spGrown : Sp := fun vs H Q _ => ∃ (G : Hp) (st : Addr) (m n c : Nat), vs = [.ref st, .int (n : Int), .int (c : Int)] ∧ DSt G H st m ∧ m < 900000 ∧ n ≤ 20 ∧ c ≤ 1 ∧
  ∀ (t l : Addr) (ps : List (Nat × Nat)) (ord : List Nat) (G' H' : Hp), Same G G' → DSt G' H' st (m + 4 * n) → G' t = some (.tup [.ref l, .int (ord.length : Int)]) → PairsAt G' l ps → Grown ps ord → ps.length = n + 1 → ord.length ≤ 8 → Q (.ref t) H'
theorem ok_grown (T : Txt K mg) : FnOk P w K mg base CX0 2 T.f_grown T.d_grown ["_law_state", "_law_turns", "_law_wild"] spGrown := by
  have G_take : FnOk P w K mg base CX0 1 T.f_take T.d_take ["_law_state", "_law_limit"] spTake := ok_take T
  have z2 : 2 ≤ sizeLine := by decide
  have z1 : 1 ≤ sizeLine := by decide
  refine T.F_grown.ok sc_grown (fun vs H Q E h => ?_) (fun cdv A outer s H vs Q E hr h => ?_)
  · obtain ⟨G, st, m, n, c, rfl, _⟩ := h
    rfl
  · obtain ⟨G, st, m, n, c, rfl, d0, hm, hn, hc, k⟩ := h
    refine ⟨_, (pss_cons (ps_set (i := 3) sc_grown.nd rfl (Or.inl rfl) (pe_lst (pa_cons (pe_tup (pa_cons pe_int (pa_cons pe_int pa_nil))) pa_nil)))
    (pss_cons (ps_set (i := 4) sc_grown.nd rfl (Or.inr rfl) (pe_lst (pa_cons pe_int (pa_cons pe_int pa_nil))))
    (C8.pss_cut (ps_for PassesOwn.never rfl (pi_range1 rfl T.n_range (pa_cons (pv 1) pa_nil)) (pg_name (i := 5) sc_grown.nd rfl (Or.inl rfl))
      (pss_cons (ps_set (i := 6) sc_grown.nd rfl (Or.inl rfl) (pe_call G_take (hr.mono (by decide)) rfl T.m_take T.F_take.kp T.b_take .nil pass0 (pa_cons (pv 0) (pa_cons (pe_op op_add pe_int (pv 2)) pa_nil))))
    (pss_cons (ps_set (i := 7) sc_grown.nd rfl (Or.inl rfl) (pe_call G_take (hr.mono (by decide)) rfl T.m_take T.F_take.kp T.b_take .nil pass0 (pa_cons (pv 0) (pa_cons (pe_callB call_len_seq (by rfl) T.n_len (by decide +kernel) (pa_cons (pv 3) pa_nil)) pa_nil))))
    (pss_cons (ps_asg (pe_ix ix_list (pv 3) (pv 7) (fun _ _ => rfl)) (pg_tup rfl (pgs_cons (pg_name (i := 8) sc_grown.nd rfl (Or.inr rfl)) (pgs_cons (pg_name (i := 9) sc_grown.nd rfl (Or.inl rfl)) pgs_nil))))
    (pss_one (ps_if (PW.pt (pw_and (pt_cmpR op_eq (pv 6) pe_int (nomark _)) (pw_and1 (pt_cmpR op_lt (pe_callB call_len_seq (by rfl) T.n_len (by decide +kernel) (pa_cons (pv 4) pa_nil)) pe_int (nomark _)))))
      (pss_cons (ps_set (i := 10) sc_grown.nd rfl (Or.inl rfl) (pe_callB call_len_seq (by rfl) T.n_len (by decide +kernel) (pa_cons (pv 4) pa_nil)))
    (pss_cons (ps_set (i := 11) sc_grown.nd rfl (Or.inl rfl) (pe_ix ix_list (pe_lc (own := [("_law_k", 14)]) (g := gName 14) rfl sc_grown.nd (pi_range1 rfl T.n_range (pa_cons (pe_callB call_len_seq (by rfl) T.n_len (by decide +kernel) (pa_cons (pv 4) pa_nil)) pa_nil)) (blkOk_by (N := ["_law_state", "_law_turns", "_law_wild", "_law_links", "_law_order", "_law_turn", "_law_plan", "_law_spot", "_law_tail", "_law_head", "_law_place", "_law_at", "_law_low", "_law_high", "_law_k"]) (sc := defScope s_grown) (by decide +kernel)) (fun _ _ _ _ _ => pg_name (i := 14) sc_grown.nd rfl (Or.inl rfl)) (fun _ _ _ _ _ => pts_one (pt_cmpR op_eq (pe_ix (show IxR _ (rIxL K) from ix_list) (pv 4) (pv 14) (fun _ _ => rfl)) (pv 8) (nomark _))) (fun _ _ _ _ _ => (pv 14))) pe_int (fun _ _ => rfl)))
    (pss_cons (ps_expr (pe_bm PySem.F.plainAttrs_list PySem.F.slot_list_insert PySem.F.type_list_insert mt_insert (pv 4) (pa_cons (pe_op op_add (pv 11) pe_int) (pa_cons (pv 10) pa_nil))))
    (pss_cons (ps_asg (pe_tup (pa_cons (pv 8) (pa_cons (pv 10) pa_nil))) (pg_sub (pv 3) (pv 7) set_list))
    (pss_one (ps_expr (pe_bm PySem.F.plainAttrs_list PySem.F.slot_list_append PySem.F.type_list_append mt_append (pv 3) (pa_cons (pe_tup (pa_cons (pv 10) (pa_cons (pv 9) pa_nil))) pa_nil))))))))
      (pss_one (ps_if (pt_cmpR op_eq (pv 6) pe_int (nomark _))
      (pss_cons (ps_set (i := 12) sc_grown.nd rfl (Or.inl rfl) (pe_call G_take (hr.mono (by decide)) rfl T.m_take T.F_take.kp T.b_take .nil pass0 (pa_cons (pv 0) (pa_cons (pe_op op_sub (pe_callB call_len_seq (by rfl) T.n_len (by decide +kernel) (pa_cons (pv 4) pa_nil)) pe_int) pa_nil))))
    (pss_cons (ps_set (i := 13) sc_grown.nd rfl (Or.inl rfl) (pe_op op_add (pe_op op_add (pv 12) pe_int) (pe_call G_take (hr.mono (by decide)) rfl T.m_take T.F_take.kp T.b_take .nil pass0 (pa_cons (pv 0) (pa_cons (pe_op op_sub (pe_op op_sub (pe_callB call_len_seq (by rfl) T.n_len (by decide +kernel) (pa_cons (pv 4) pa_nil)) pe_int) (pv 12)) pa_nil)))))
    (pss_one (ps_expr (pe_bm PySem.F.plainAttrs_list PySem.F.slot_list_append PySem.F.type_list_append mt_append (pv 3) (pa_cons (pe_tup (pa_cons (pe_ix ix_list (pv 4) (pv 12) (fun _ _ => rfl)) (pa_cons (pe_ix ix_list (pv 4) (pv 13) (fun _ _ => rfl)) pa_nil))) pa_nil))))))
      (pss_one (ps_expr (pe_bm PySem.F.plainAttrs_list PySem.F.slot_list_append PySem.F.type_list_append mt_append (pv 3) (pa_cons (pe_tup (pa_cons (pv 8) (pa_cons (pv 9) pa_nil))) pa_nil))))))))))))
    (pss_one (ps_ret (pe_tup (pa_cons (pv 3) (pa_cons (pe_callB call_len_seq (by rfl) T.n_len (by decide +kernel) (pa_cons (pv 4) pa_nil)) pa_nil)))))))), ?_⟩
    refine ⟨z2, fun t0 nt0 => ?_⟩
    have d1 := d0.new (o := .tup [V.int 0, V.int 1]) nt0
    refine ⟨z1, fun l nl => ?_⟩
    have d2 := d1.new (o := .lst [V.ref t0]) nl
    refine ⟨z2, fun o no => ?_⟩
    have d3 := d2.new (o := .lst [V.int 0, V.int 1]) no
    have gt0 : G t0 = none := d0.free nt0
    have gl1 := d1.free nl
    have go2 := d2.free no
    have sa := same_upd (o := .tup [V.int 0, V.int 1]) gt0
    have sb := same_upd (o := .lst [V.ref t0]) gl1
    have sc := same_upd (o := .lst [V.int 0, V.int 1]) go2
    have fl : G l = none := sa.free gl1
    have fo : G o = none := (sa.trans sb).free go2
    have ol : o ≠ l := fun z => by rw [z, upd_same] at go2; cases go2
    have ga0 : GrownAt G (upd (upd (upd G t0 (.tup [V.int 0, V.int 1])) l (.lst [V.ref t0])) o (.lst [V.int 0, V.int 1])) o l [(0, 1)] [0, 1] := by
      refine ⟨(sa.trans sb).trans sc, fo, fl, ol, upd_same, [t0], sc _ _ upd_same, .cons ?_ .nil⟩
      exact sc _ _ (sb _ _ upd_same)
    generalize upd (upd (upd G t0 (.tup [V.int 0, V.int 1])) l (.lst [V.ref t0])) o (.lst [V.int 0, V.int 1]) = G3 at d3 ga0
    refine ⟨fun σ H' => ∃ G' ps ord x5 x6 x7 x8 x9 x10 x11 x12 x13 x14, σ = [some (.ref st), some (.int n), some (.int c), some (.ref l), some (.ref o), x5, x6, x7, x8, x9, x10, x11, x12, x13, x14] ∧ DSt G' H' st (m + 4 * n) ∧ GrownAt G G' o l ps ord ∧ Grown ps ord ∧ ps.length = n + 1 ∧ ord.length ≤ 8, ?_, ?_⟩
    · refine ⟨_, rfl, _, rfl, by omega, by omega, ?_⟩
      refine for_range (lo := 0) (n := n) (fun i σ H' => ∃ G' ps ord x5 x6 x7 x8 x9 x10 x11 x12 x13 x14, σ = [some (.ref st), some (.int n), some (.int c), some (.ref l), some (.ref o), x5, x6, x7, x8, x9, x10, x11, x12, x13, x14] ∧ DSt G' H' st (m + 4 * i) ∧ GrownAt G G' o l ps ord ∧ Grown ps ord ∧ ps.length = i + 1 ∧ ord.length ≤ 8)
        ⟨_, _, _, none, none, none, none, none, none, none, none, none, none, rfl, d3, ga0, Grown.start, rfl, by decide⟩ ?_ ?_
      · rintro i σ H' hi ⟨G', ps, ord, x5, x6, x7, x8, x9, x10, x11, x12, x13, x14, rfl, d, ga, gr, hpl, hol⟩
        refine ⟨_, rfl, _, rfl, _, _, rfl, rfl, G', st, m + 4 * i, _, rfl, d, by omega, by omega, Int.lt_of_le_of_lt (b := 100) (by omega) (by decide), fun r H1 r0 r1 d1 => ?_⟩
        obtain ⟨qs, hl1, hps⟩ := ga.hp
        have hql : (qs.map V.ref).length = ps.length := by rw [List.length_map, hps.length]
        refine ⟨_, rfl, _, rfl, l, _, rfl, .inl (SqL.of (d1.same _ _ hl1)), G', st, m + 4 * i + 1, _, rfl, d1, by omega, by rw [hql]; omega, Int.lt_of_le_of_lt (b := 100) (by rw [hql]; omega) (by decide), fun sp H2 s0 s1 d2 => ?_⟩
        rw [hql] at s1
        obtain ⟨sn, rfl⟩ : ∃ sn : Nat, sp = (sn : Int) := ⟨sp.toNat, by omega⟩
        have hsn : sn < ps.length := by omega
        obtain ⟨q, hq⟩ : ∃ q, qs[sn]? = some q := ⟨_, List.getElem?_eq_getElem (by rw [hps.length]; exact hsn)⟩
        obtain ⟨p, hp, hqp⟩ := L2.paired_get hps hq
        obtain ⟨a, b⟩ := p
        have hqp : G' q = some (.tup [.int (a : Int), .int (b : Int)]) := hqp
        refine ⟨_, rfl, _, rfl, l, _, _, .ref q, rfl, rfl, SqL.of (d2.same _ _ hl1), atI_nat (by rw [List.getElem?_map, hq]; rfl), q, _, rfl, SqT.of (d2.same _ _ hqp), rfl, _, _, rfl, _, _, rfl, rfl, ?_⟩
        have hord : (ord.map fun v : Nat => V.int (v : Int)).length = ord.length := List.length_map _
        have ho2 := d2.same _ _ ga.ho
        have hl2 := d2.same _ _ hl1
        obtain ⟨ia, jb, hia, hjb, hij⟩ := gr.up _ (List.mem_of_getElem? hp)
        have hjl := (List.getElem?_eq_some_iff.mp hjb).1
        have htwo := gr.two
        have grs := gr.add hia hjb hij
        have m1 : m + 4 * i + 1 + 1 ≤ m + 4 * (i + 1) := by omega
        refine ⟨_, rfl, rfl, _, rfl, ?_⟩
        by_cases hr0 : r = 0
        · rw [show decide (V.int r = V.int 0) = true from decide_eq_true (by rw [hr0])]
          refine iteT ?_
          refine ⟨_, rfl, o, _, rfl, .inl (SqL.of ho2), _, _, rfl, rfl, _, rfl, ite2 (fun hlt => ?_) fun hlt => ?_⟩
          · have hlt' : ord.length < 8 := by
              have := of_decide_eq_true hlt
              rw [hord] at this
              omega
            refine ⟨_, rfl, o, _, rfl, .inl (SqL.of ho2), ?_⟩
            refine ⟨_, rfl, o, _, rfl, .inl (SqL.of ho2), _, rfl, by rw [hord]; omega, by rw [hord]; omega, fun D nD => ?_⟩
            have dD := d2.new (o := .lst []) nD
            have oD : o ≠ D := fun z => by rw [z] at ho2; rw [ho2] at nD; cases nD
            have eo := ho2
            rw [hord]
            refine lc_range (lo := 0) (n := ord.length) (fun i H9 => H9 = upd H2 D (.lst (if ia < i then [V.int (ia : Int)] else []))) ?_ ?_ ?_
            · rfl
            · rintro k H9 hk9 rfl
              have e0 : (0 : Int) + (k : Int) = (k : Int) := Int.zero_add _
              have eo2 : (upd H2 D (.lst (if ia < k then [V.int (ia : Int)] else []))) o = some (.lst (ord.map fun v : Nat => V.int (v : Int))) := by rw [upd_ne oD]; exact ho2
              refine ⟨rfl, _, rfl, _, rfl, o, _, _, .int (ord[k] : Nat), rfl, rfl, SqL.of eo2, by rw [e0]; exact atI_nat (by rw [List.getElem?_map, List.getElem?_eq_getElem hk9]; rfl), _, rfl, rfl, _, rfl, ite2 (fun he => ?_) fun he => ?_⟩
              · have e1 : ord[k] = a := by
                  have := V.int.inj (of_decide_eq_true he)
                  omega
                have ek : ia = k := by
                  obtain ⟨h1, w1⟩ := List.getElem?_eq_some_iff.mp hia
                  rcases Nat.lt_trichotomy ia k with z | z | z
                  · exact absurd (w1.trans e1.symm) (List.pairwise_iff_getElem.mp gr.nd ia k h1 hk9 z)
                  · exact z
                  · exact absurd (e1.trans w1.symm) (List.pairwise_iff_getElem.mp gr.nd k ia hk9 h1 z)
                subst ek
                refine ⟨_, rfl, _, upd_same, ?_, ?_⟩
                · rw [if_neg (Nat.lt_irrefl _)]
                  exact small1000 (by show 0 ≤ 1000; decide)
                · rw [if_neg (Nat.lt_irrefl _), if_pos (Nat.lt_succ_self _), e0]
                  funext c
                  by_cases ec : c = D
                  · rw [ec, upd_same, upd_same]; rfl
                  · rw [upd_ne ec, upd_ne ec, upd_ne ec]
              · have e1 : ia ≠ k := fun z => he (decide_eq_true (by
                  have := (List.getElem?_eq_some_iff.mp hia).2
                  subst z
                  rw [this]))
                by_cases hlk : ia < k
                · rw [if_pos hlk, if_pos (by omega)]
                · rw [if_neg hlk, if_neg (by omega)]
            · rintro H9 rfl
              have hial := (List.getElem?_eq_some_iff.mp hia).1
              rw [if_pos hial]
              have d3 := d2.new (o := .lst [V.int (ia : Int)]) nD
              have gD := d2.free nD
              have sD := same_upd (o := .lst [V.int (ia : Int)]) gD
              have ga := ga.new (u := .lst [V.int (ia : Int)]) gD
              have hl1 := sD _ _ hl1
              have hps := paired_on (fun _ _ (e : PairAt _ _ _) => (show PairAt (upd G' D (.lst [V.int (ia : Int)])) _ _ from sD _ _ e)) hps
              refine ⟨D, _, _, .int (ia : Int), rfl, rfl, SqL.of upd_same, rfl, ?_⟩
              generalize upd G' D (.lst [V.int (ia : Int)]) = G1 at d3 ga hl1 hps
              generalize upd H2 D (.lst [V.int (ia : Int)]) = H3 at d3 ⊢
              clear sD gD dD eo ho2 hl2 d2 d1 d
              have ho3 := d3.same _ _ ga.ho
              have epos : ((ia : Int) + 1) = ((ia + 1 : Nat) : Int) := by omega
              refine ⟨_, rfl, .inl ⟨rfl, _, SqL.of ho3⟩, _, rfl, _, 1, rfl, rfl, _, rfl, o, _, _, _, rfl, rfl, ho3, small1000 (by rw [hord]; omega), by show (0 : Int) ≤ (ia : Int) + 1; omega, Int.lt_of_le_of_lt (b := 1000) (by show (ia : Int) + 1 ≤ 1000; omega) (by decide), ?_⟩
              have eins : (List.take ((ia : Int) + 1).toNat (ord.map fun v : Nat => V.int (v : Int)) ++ [V.int (ord.length : Nat)] ++ List.drop ((ia : Int) + 1).toNat (ord.map fun v : Nat => V.int (v : Int))) = (insAt ord (ia + 1) ord.length).map fun v : Nat => V.int (v : Int) := by
                rw [epos, Int.toNat_natCast]
                unfold insAt
                rw [List.map_append, List.map_append, List.map_take, List.map_drop]
                rfl
              have dA := d3.put (p := o) (o := .lst ((insAt ord (ia + 1) ord.length).map fun v : Nat => V.int (v : Int))) ga.ho
              have gA := ga.setO (ord' := insAt ord (ia + 1) ord.length)
              have hAl : (upd G1 o (.lst ((insAt ord (ia + 1) ord.length).map fun v : Nat => V.int (v : Int)))) l = some (.lst (qs.map V.ref)) := by rw [upd_ne ga.ne.symm]; exact hl1
              have hAp : Paired (PairAt (upd G1 o (.lst ((insAt ord (ia + 1) ord.length).map fun v : Nat => V.int (v : Int))))) qs ps := paired_on (fun x y e => by show upd _ _ _ _ = _; rw [upd_ne (fun z => by rw [z] at e; have e2 : G1 o = _ := e; rw [ga.ho] at e2; cases e2)]; exact e) hps
              dsimp only
              rw [eins]
              generalize upd G1 o (.lst ((insAt ord (ia + 1) ord.length).map fun v : Nat => V.int (v : Int))) = GA at dA gA hAl hAp
              generalize upd H3 o (.lst ((insAt ord (ia + 1) ord.length).map fun v : Nat => V.int (v : Int))) = HA at dA
              refine ⟨_, rfl, _, rfl, by show 2 ≤ sizeLine; decide, fun t nt => ?_⟩
              have dB := dA.new (o := .tup [.int (a : Int), .int (ord.length : Int)]) nt
              have ntG := dA.free nt
              have hBl : (upd GA t (.tup [.int (a : Int), .int (ord.length : Int)])) l = some (.lst (qs.map V.ref)) := same_upd ntG _ _ hAl
              have hBp : Paired (PairAt (upd GA t (.tup [.int (a : Int), .int (ord.length : Int)]))) qs ps := paired_on (fun _ _ e => same_upd ntG _ _ e) hAp
              have hBt : PairAt (upd GA t (.tup [.int (a : Int), .int (ord.length : Int)])) t (a, ord.length) := upd_same
              have gB := gA.new (u := .tup [.int (a : Int), .int (ord.length : Int)]) ntG
              have gC := gB.setP (paired_set (i := sn) hBt hBp)
              have dC := dB.put (p := l) (o := .lst ((qs.set sn t).map V.ref)) hBl
              refine ⟨_, rfl, _, rfl, l, _, _, sn, rfl, rfl, dB.same _ _ hBl, ix_nat (by rw [hql]; exact hsn), ?_⟩
              rw [show (qs.map V.ref).set sn (V.ref t) = (qs.set sn t).map V.ref from by rw [List.map_set]]
              have hCl : (upd (upd GA t (.tup [.int (a : Int), .int (ord.length : Int)])) l (.lst ((qs.set sn t).map V.ref))) l = some (.lst ((qs.set sn t).map V.ref)) := upd_same
              obtain ⟨qs2, hCl2, hCp⟩ := gC.hp
              have eq2 : qs2 = qs.set sn t := by
                rw [hCl] at hCl2
                have := HO.lst.inj (Option.some.inj hCl2)
                exact (List.map_inj_right (f := V.ref) (fun x y e => V.ref.inj e)).mp this.symm
              rw [eq2] at hCp
              generalize upd (upd GA t (.tup [.int (a : Int), .int (ord.length : Int)])) l (.lst ((qs.set sn t).map V.ref)) = GC at dC gC hCl hCp
              generalize upd (upd HA t (.tup [.int (a : Int), .int (ord.length : Int)])) l (.lst ((qs.set sn t).map V.ref)) = HC at dC ⊢
              have hClh := dC.same _ _ hCl
              refine ⟨_, rfl, .inl ⟨rfl, _, SqL.of hClh⟩, _, rfl, _, rfl, by show 2 ≤ sizeLine; decide, fun t2 nt2 => ?_⟩
              have hl3 := same_upd (o := .tup [.int (ord.length : Int), .int (b : Int)]) nt2 _ _ hClh
              obtain ⟨dd, gg⟩ := app_pair (dC.mono (m' := m + 4 * (i + 1)) (by omega)) gC hCl hCp nt2 ord.length b
              refine ⟨l, _, _, rfl, rfl, hl3, small1000 (by rw [List.length_map, List.length_set, hps.length]; omega), _, _, _, _, _, _, _, _, _, _, _, _, _, rfl, dd, gg, gr.split hp hia hjb (by omega) (by omega), by rw [List.length_append, List.length_set, hpl]; rfl, by rw [ins_len]; omega⟩
          · refine ⟨_, rfl, rfl, _, rfl, ?_⟩
            rw [show decide (V.int r = V.int 2) = false from decide_eq_false (fun z => by have := V.int.inj z; omega)]
            refine iteF ?_
            refine ⟨_, rfl, .inl ⟨rfl, _, SqL.of hl2⟩, _, rfl, _, rfl, by show 2 ≤ sizeLine; decide, fun t nt => ?_⟩
            have hl3 := same_upd (o := .tup [.int (a : Int), .int (b : Int)]) nt _ _ hl2
            obtain ⟨dd, gg⟩ := app_pair (d2.mono m1) ga hl1 hps nt a b
            exact ⟨l, _, _, rfl, rfl, hl3, small1000 (by rw [hql]; omega), _, _, _, _, _, _, _, _, _, _, _, _, _, rfl, dd, gg, grs, by rw [List.length_append, hpl]; rfl, hol⟩
        · rw [show decide (V.int r = V.int 0) = false from decide_eq_false (fun z => hr0 (V.int.inj z))]
          refine iteF ?_
          refine ⟨_, rfl, rfl, _, rfl, ite2 (fun h1 => ?_) fun h1 => ?_⟩
          · refine ⟨_, rfl, _, rfl, o, _, rfl, .inl (SqL.of ho2), _, 1, rfl, rfl, G', st, m + 4 * i + 1 + 1, _, rfl, d2, by omega, by rw [hord]; omega, Int.lt_of_le_of_lt (b := 100) (by rw [hord]; omega) (by decide), fun kp H3 p0 p1 d3 => ?_⟩
            rw [hord] at p1
            obtain ⟨kn, rfl⟩ : ∃ kn : Nat, kp = (kn : Int) := ⟨kp.toNat, by omega⟩
            have hkn : kn + 1 < ord.length := by omega
            have ho3 := d3.same _ _ ga.ho
            refine ⟨_, rfl, _, 1, rfl, rfl, _, rfl, _, rfl, o, _, rfl, .inl (SqL.of ho3), _, 1, rfl, rfl, _, rfl, _, _, rfl, rfl, G', st, m + 4 * i + 1 + 1 + 1, _, rfl, d3, by omega, by rw [hord]; omega, Int.lt_of_le_of_lt (b := 100) (by rw [hord]; omega) (by decide), fun jp H4 j0 j1 d4 => ?_⟩
            rw [hord] at j1
            obtain ⟨jn, rfl⟩ : ∃ jn : Nat, jp = (jn : Int) := ⟨jp.toNat, by omega⟩
            have hjn : kn + 1 + jn < ord.length := by omega
            have ho4 := d4.same _ _ ga.ho
            have eidx : ((kn : Int) + 1 + (jn : Int)) = ((kn + 1 + jn : Nat) : Int) := by omega
            refine ⟨_, _, rfl, rfl, ?_⟩
            refine ⟨_, rfl, .inl ⟨rfl, _, SqL.of (d4.same _ _ hl1)⟩, _, rfl, _, rfl, o, _, _, .int (ord[kn] : Nat), rfl, rfl, SqL.of ho4, atI_nat (by rw [List.getElem?_map, List.getElem?_eq_getElem (by omega)]; rfl), _, rfl, _, rfl, o, _, _, .int (ord[kn + 1 + jn] : Nat), rfl, rfl, SqL.of ho4, (by show atI _ ((kn : Int) + 1 + (jn : Int)) = _; rw [eidx]; exact atI_nat (by rw [List.getElem?_map, List.getElem?_eq_getElem hjn]; rfl)), by show 2 ≤ sizeLine; decide, fun t nt => ?_⟩
            have hl4 := same_upd (o := .tup [.int (ord[kn] : Nat), .int (ord[kn + 1 + jn] : Nat)]) nt _ _ (d4.same _ _ hl1)
            obtain ⟨dd, gg⟩ := app_pair (d4.mono (m' := m + 4 * (i + 1)) (by omega)) ga hl1 hps nt ord[kn] ord[kn + 1 + jn]
            exact ⟨l, _, _, rfl, rfl, hl4, small1000 (by rw [hql]; omega), _, _, _, _, _, _, _, _, _, _, _, _, _, rfl, dd, gg, gr.add (List.getElem?_eq_getElem (by omega)) (List.getElem?_eq_getElem hjn) (by omega), by rw [List.length_append, hpl]; rfl, hol⟩
          · refine ⟨_, rfl, .inl ⟨rfl, _, SqL.of hl2⟩, _, rfl, _, rfl, by show 2 ≤ sizeLine; decide, fun t nt => ?_⟩
            have hl3 := same_upd (o := .tup [.int (a : Int), .int (b : Int)]) nt _ _ hl2
            obtain ⟨dd, gg⟩ := app_pair (d2.mono m1) ga hl1 hps nt a b
            exact ⟨l, _, _, rfl, rfl, hl3, small1000 (by rw [hql]; omega), _, _, _, _, _, _, _, _, _, _, _, _, _, rfl, dd, gg, grs, by rw [List.length_append, hpl]; rfl, hol⟩
      · rintro σ H' ⟨G', ps, ord, x5, x6, x7, x8, x9, x10, x11, x12, x13, x14, e, d, ga, gr, hpl, hol⟩
        exact ⟨G', ps, ord, x5, x6, x7, x8, x9, x10, x11, x12, x13, x14, e, d, ga, gr, hpl, hol⟩
    · rintro σ H' ⟨G', ps, ord, x5, x6, x7, x8, x9, x10, x11, x12, x13, x14, rfl, d, ga, gr, hpl, hol⟩
      have hord : (ord.map fun v : Nat => V.int (v : Int)).length = ord.length := List.length_map _
      refine ⟨_, rfl, _, rfl, o, _, rfl, .inl (SqL.of (d.same _ _ ga.ho)), by show 2 ≤ sizeLine; decide, fun t nt => ?_⟩
      have dd := d.new (o := .tup [.ref l, .int (ord.map fun v : Nat => V.int (v : Int)).length]) nt
      have gg := ga.new (u := .tup [.ref l, .int (ord.map fun v : Nat => V.int (v : Int)).length]) (d.free nt)
      exact k t l ps ord _ _ gg.sm dd (by rw [upd_same, hord]) gg.hp gr hpl hol
end

def RowT (H : Hp) (q : Addr) (e : Ent) : Prop := H q = some (.tup [.str e.1, .str e.2.1, .str e.2.2])
/-- links as a list of tuples -/
def RowsL (H : Hp) (l : Addr) (es : List Ent) : Prop := ∃ qs : List Addr, H l = some (.lst (qs.map V.ref)) ∧ Paired (RowT H) qs es
theorem RowsL.on {H H' : Hp} {l : Addr} {es : List Ent} (h : RowsL H l es) (s : Same H H') : RowsL H' l es := let ⟨qs, a, b⟩ := h; ⟨qs, s _ _ a, paired_on (fun _ _ e => s _ _ e) b⟩
theorem RowsL.rows {K : PySem.W.Frag} {H : Hp} {l : Addr} {es : List Ent} (h : RowsL H l es) : Rows K H l es := let ⟨qs, a, b⟩ := h; ⟨qs, .inl (SqL.of a), paired_on (fun _ _ e => .inl (SqT.of e)) b⟩
/-- a row more -/
theorem rows_put {G H : Hp} {st D U : Addr} {m : Nat} {qs : List Addr} {es : List Ent} {e : Ent} (d : DSt G H st m) (hD : G D = some (.lst (qs.map V.ref))) (hp : Paired (RowT G) qs es) (nU : H U = none) :
    DSt (upd (upd G U (.tup [.str e.1, .str e.2.1, .str e.2.2])) D (.lst (qs.map V.ref ++ [V.ref U]))) (upd (upd H U (.tup [.str e.1, .str e.2.1, .str e.2.2])) D (.lst (qs.map V.ref ++ [V.ref U]))) st m ∧
      (upd (upd G U (.tup [.str e.1, .str e.2.1, .str e.2.2])) D (.lst (qs.map V.ref ++ [V.ref U]))) D = some (.lst ((qs ++ [U]).map V.ref)) ∧
      Paired (RowT (upd (upd G U (.tup [.str e.1, .str e.2.1, .str e.2.2])) D (.lst (qs.map V.ref ++ [V.ref U])))) (qs ++ [U]) (es ++ [e]) := by
  have nG := d.free nU
  have DU : D ≠ U := ne_of_none hD nG
  have up : ∀ c o, (upd G U (.tup [.str e.1, .str e.2.1, .str e.2.2])) c = some (.tup o) → (upd (upd G U (.tup [.str e.1, .str e.2.1, .str e.2.2])) D (.lst (qs.map V.ref ++ [V.ref U]))) c = some (.tup o) := fun c o hc => by
    rw [upd_ne (fun z => by rw [z, upd_ne DU, hD] at hc; cases hc)]
    exact hc
  refine ⟨(d.new nU).put (p := D) (u := .lst (qs.map V.ref)) (by rw [upd_ne DU]; exact hD), by rw [upd_same, List.map_append]; rfl, ?_⟩
  exact paired_snoc (show RowT _ U e from up _ _ upd_same) (paired_on (fun _ _ h => up _ _ (same_upd nG _ _ h)) hp)
theorem paired_perm {α β : Type} {F : α → β → Prop} : ∀ {xs xs' : List α} {ys : List β}, xs'.Perm xs → Paired F xs ys → ∃ ys' : List β, ys'.Perm ys ∧ Paired F xs' ys'
  | _, _, _, .nil, .nil => ⟨[], .nil, .nil⟩
  | _, _, _, .cons x p, .cons (b := y) a r => let ⟨ys', q, r'⟩ := paired_perm p r; ⟨y :: ys', q.cons y, .cons a r'⟩
  | _, _, _, .swap x y l, .cons (b := b1) a1 (.cons (b := b2) a2 r) => ⟨b2 :: b1 :: _, .swap _ _ _, .cons a2 (.cons a1 r)⟩
  | _, _, _, .trans p1 p2, h => let ⟨ys1, q1, r1⟩ := paired_perm p2 h; let ⟨ys2, q2, r2⟩ := paired_perm p1 r1; ⟨ys2, q2.trans q1, r2⟩
theorem paired_map {α β : Type} (f : α → β) : ∀ xs : List α, Paired (fun y x => y = f x) (xs.map f) xs
  | [] => .nil
  | x :: xs => .cons rfl (paired_map f xs)
theorem map_of_paired {α β : Type} {f : α → β} : ∀ {ys : List β} {xs : List α}, Paired (fun y x => y = f x) ys xs → ys = xs.map f
  | _, _, .nil => rfl
  | _, _, .cons a r => by rw [List.map_cons, ← map_of_paired r, a]
theorem map_perm_inv {α β : Type} {f : α → β} {xs : List α} {ys : List β} (h : ys.Perm (xs.map f)) : ∃ zs : List α, zs.Perm xs ∧ ys = zs.map f :=
  let ⟨zs, p, r⟩ := paired_perm h (paired_map f xs); ⟨zs, p, map_of_paired r⟩

theorem cut_take (xs : List V) (k : Nat) : cutV xs none (some (k : Int)) = xs.take k := by
  unfold cutV
  rw [HT.sIx_none, HT.sIx_nat, List.drop_zero, Nat.sub_zero]
  by_cases h : k ≤ xs.length
  · rw [Nat.min_eq_left h]
  · rw [Nat.min_eq_right (by omega), List.take_of_length_le (Nat.le_refl _), List.take_of_length_le (by omega)]
def spotWs : List Str := ["s", "t", "p", "q1", "x", "end", "b", "a2"]
def linkWs : List Str := ["a", "b", "c1", "link", "z9", "m", "ab", "a2", "long1", "y"]
instance (z : Str) : Decidable (Wn z) := by unfold Wn; infer_instance
theorem spot_ok : NamesOk spotWs 8 := ⟨rfl, by decide +kernel, by decide +kernel⟩
theorem link_ok : NamesOk linkWs 10 := ⟨rfl, by decide +kernel, by decide +kernel⟩
theorem NamesOk.cut {ws zs : List Str} {n m : Nat} (h : NamesOk ws n) (p : zs.Perm ws) (hm : m ≤ n) : NamesOk (zs.take m) m := by
  have sub := List.take_sublist m zs
  exact ⟨by rw [List.length_take, p.length_eq, h.len]; omega, sub.nodup (p.nodup_iff.mpr h.nd), fun z hz => h.ok z (p.mem_iff.mp (sub.mem hz))⟩
section
variable {P : Program} {w : World} {K : PySem.W.Frag} {mg : Str → Option Value} {base : Heap}
def spNamed : Sp := fun vs H Q _ => ∃ (G : Hp) (st l : Addr) (m : Nat) (ps : List (Nat × Nat)) (ord : List Nat), vs = [.ref st, .ref l, .int (ord.length : Int)] ∧ DSt G H st m ∧ m < 800000 ∧ PairsAt G l ps ∧ Grown ps ord ∧ 1 ≤ ps.length ∧ ps.length ≤ 10 ∧ ord.length ≤ 8 ∧
  ∀ (t l : Addr) (es : List Ent) (a b : Str) (G' H' : Hp), Same G G' → DSt G' H' st (m + 40) → G' t = some (.tup [.ref l, .str a, .str b]) → RowsL G' l es → NetOk es a b 8 → es.length = ps.length → (∀ e ∈ es, e.1 ∈ linkWs) → Q (.ref t) H'
theorem ok_named (T : Txt K mg) : FnOk P w K mg base CX0 3 T.f_named T.d_named ["_law_state", "_law_links", "_law_count"] spNamed := by
  have G_shuffled : FnOk P w K mg base CX0 2 T.f_shuffled T.d_shuffled ["_law_state", "_law_items"] spShuf := ok_shuf T
  refine T.F_named.ok sc_named (fun vs H Q E h => ?_) (fun cdv A outer s H vs Q E hr h => ?_)
  · obtain ⟨G, st, l, m, ps, ord, rfl, _⟩ := h
    rfl
  · obtain ⟨G, st, l, m, ps, ord, rfl, d0, hm, hps, gr, hp1, hp10, ho8, k⟩ := h
    refine ⟨_, (pss_cons (ps_set (i := 3) sc_named.nd rfl (Or.inl rfl) (pe_lst (pa_cons pe_str (pa_cons pe_str (pa_cons pe_str (pa_cons pe_str (pa_cons pe_str (pa_cons pe_str (pa_cons pe_str (pa_cons pe_str pa_nil))))))))))
    (pss_cons (ps_set (i := 4) sc_named.nd rfl (Or.inr rfl) (pe_slice sl_list (pe_call G_shuffled (hr.mono (by decide)) rfl T.m_shuffled T.F_shuffled.kp T.b_shuffled .nil pass0 (pa_cons (pv 0) (pa_cons (pv 3) pa_nil))) po_none (po_some (pv 2))))
    (pss_cons (ps_set (i := 3) sc_named.nd rfl (Or.inl rfl) (pe_lst (pa_cons pe_str (pa_cons pe_str (pa_cons pe_str (pa_cons pe_str (pa_cons pe_str (pa_cons pe_str (pa_cons pe_str (pa_cons pe_str (pa_cons pe_str (pa_cons pe_str pa_nil))))))))))))
    (pss_cons (ps_set (i := 5) sc_named.nd rfl (Or.inr rfl) (pe_slice sl_list (pe_call G_shuffled (hr.mono (by decide)) rfl T.m_shuffled T.F_shuffled.kp T.b_shuffled .nil pass0 (pa_cons (pv 0) (pa_cons (pv 3) pa_nil))) po_none (po_some (pe_callB call_len_seq (by rfl) T.n_len (by decide +kernel) (pa_cons (pv 1) pa_nil)))))
    (pss_cons (ps_setLc (i := 6) (own := [("_law_k", 7)]) (g := gName 7) (tt := tYes) rfl sc_named.nd rfl rfl (sw_true rfl rfl rfl (by decide +kernel)) (pi_range1 rfl T.n_range (pa_cons (pe_callB call_len_seq (by rfl) T.n_len (by decide +kernel) (pa_cons (pv 1) pa_nil)) pa_nil)) (blkOk_by (N := ["_law_state", "_law_links", "_law_count", "_law_words", "_law_spotted", "_law_names", "_law_told_here", "_law_k"]) (sc := defScope s_named) (by decide +kernel)) (fun _ _ _ _ _ => pg_name (i := 7) sc_named.nd rfl (Or.inl rfl)) (fun _ _ _ _ _ => pts_nil) (fun _ _ _ _ _ => (pe_tup (pa_cons (pe_ix (show IxR _ (rIxL K) from ix_list) (pv 5) (pv 7) (fun _ _ => rfl)) (pa_cons (pe_ix (show IxR _ (rIxL K) from ix_list) (pv 4) (pe_ix (show IxR _ (rIxT K) from ix_tup) (pe_ix (show IxR _ (rIxL K) from ix_list) (pv 1) (pv 7) (fun _ _ => rfl)) pe_int (fun _ _ => rfl)) (fun _ _ => rfl)) (pa_cons (pe_ix (show IxR _ (rIxL K) from ix_list) (pv 4) (pe_ix (show IxR _ (rIxT K) from ix_tup) (pe_ix (show IxR _ (rIxL K) from ix_list) (pv 1) (pv 7) (fun _ _ => rfl)) pe_int (fun _ _ => rfl)) (fun _ _ => rfl)) pa_nil))))))
    (pss_one (ps_ret (pe_tup (pa_cons (pe_call G_shuffled (hr.mono (by decide)) rfl T.m_shuffled T.F_shuffled.kp T.b_shuffled .nil pass0 (pa_cons (pv 0) (pa_cons (pv 6) pa_nil))) (pa_cons (pe_ix ix_list (pv 4) pe_int (fun _ _ => rfl)) (pa_cons (pe_ix ix_list (pv 4) pe_int (fun _ _ => rfl)) pa_nil))))))))))), ?_⟩
    obtain ⟨qs, hl, hpr⟩ := hps
    have hql : (qs.map V.ref).length = ps.length := by rw [List.length_map, hpr.length]
    refine ⟨by show 8 ≤ sizeLine; decide, fun W1 nW1 => ?_⟩
    have d1 := d0.new (o := .lst (spotWs.map V.str)) nW1
    have s1 := same_upd (o := .lst (spotWs.map V.str)) (d0.free nW1)
    have e1 : (upd G W1 (.lst (spotWs.map V.str))) W1 = some (.lst (spotWs.map V.str)) := upd_same
    have hl1 := s1 _ _ hl
    have hp1' := paired_on (fun _ _ e => (show PairAt (upd G W1 (.lst (spotWs.map V.str))) _ _ from s1 _ _ e)) hpr
    change _ at d1
    generalize upd G W1 (.lst (spotWs.map V.str)) = G1 at d1 s1 e1 hl1 hp1'
    refine ⟨_, rfl, _, rfl, G1, st, W1, m, _, rfl, d1, by omega, e1, by decide, fun S1 xs H2 nS1 d2 px => ?_⟩
    obtain ⟨zs, pz, rfl⟩ := map_perm_inv px
    refine ⟨_, rfl, _, rfl, S1, _, rfl, SqL.of (d2.same _ _ upd_same), fun S2 nS2 => ?_⟩
    rw [cut_take, ← List.map_take]
    have hw : NamesOk (zs.take ord.length) ord.length := spot_ok.cut pz ho8
    generalize zs.take ord.length = ws at hw ⊢
    have d3 := d2.new (o := .lst (ws.map V.str)) nS2
    have s3 := (same_upd (o := .lst (zs.map V.str)) nS1).trans (same_upd (o := .lst (ws.map V.str)) (d2.free nS2))
    have hW3 : (upd (upd G1 S1 (.lst (zs.map V.str))) S2 (.lst (ws.map V.str))) S2 = some (.lst (ws.map V.str)) := upd_same
    generalize upd (upd G1 S1 (.lst (zs.map V.str))) S2 (.lst (ws.map V.str)) = G3 at d3 s3 hW3
    refine ⟨by show 10 ≤ sizeLine; decide, fun W2 nW2 => ?_⟩
    have d4 := d3.new (o := .lst (linkWs.map V.str)) nW2
    have s4 := same_upd (o := .lst (linkWs.map V.str)) (d3.free nW2)
    have e4 : (upd G3 W2 (.lst (linkWs.map V.str))) W2 = some (.lst (linkWs.map V.str)) := upd_same
    have hW4 := s4 _ _ hW3
    have s04 := (s1.trans s3).trans s4
    generalize upd G3 W2 (.lst (linkWs.map V.str)) = G4 at d4 s04 e4 hW4
    clear d1 d2 d3 s1 s3 s4 hl1 hp1' e1 nW1 nS1 nS2 nW2 hW3 px pz
    refine ⟨_, rfl, _, rfl, G4, st, W2, _, _, rfl, d4, by simp only [spotWs, List.map_cons, List.length_cons, List.map_nil, List.length_nil]; omega, e4, by decide, fun S3 xs2 H5 nS3 d5 px2 => ?_⟩
    obtain ⟨zs2, pz2, rfl⟩ := map_perm_inv px2
    have s5 := same_upd (o := .lst (zs2.map V.str)) nS3
    have hl5 := (s04.trans s5) _ _ hl
    refine ⟨_, rfl, l, _, rfl, .inl (SqL.of (d5.same _ _ hl5)), _, rfl, S3, _, rfl, SqL.of (d5.same _ _ upd_same), fun L nL => ?_⟩
    rw [hql, cut_take, ← List.map_take]
    have hls : NamesOk (zs2.take ps.length) ps.length := link_ok.cut pz2 hp10
    have hsub : ∀ z ∈ zs2.take ps.length, z ∈ linkWs := fun z hz => pz2.mem_iff.mp (List.mem_of_mem_take hz)
    generalize zs2.take ps.length = ls at hls hsub ⊢
    have d6 := d5.new (o := .lst (ls.map V.str)) nL
    have s14 := (s04.trans s5).trans (same_upd (o := .lst (ls.map V.str)) (d5.free nL))
    have hL4 : (upd (upd G4 S3 (.lst (zs2.map V.str))) L (.lst (ls.map V.str))) L = some (.lst (ls.map V.str)) := upd_same
    have hW4 := (s5.trans (same_upd (o := .lst (ls.map V.str)) (d5.free nL))) _ _ hW4
    generalize upd (upd G4 S3 (.lst (zs2.map V.str))) L (.lst (ls.map V.str)) = G6 at d6 s14 hL4 hW4
    clear d4 d5 s5 s04 hl5 px2 pz2 e4 nS3 nL
    have hl4 := s14 _ _ hl
    have hlen : ls.length = ps.length := hls.len
    have d4' := d6.mono (m' := m + 28) (by simp only [spotWs, linkWs, List.map_cons, List.length_cons, List.map_nil, List.length_nil]; omega)
    have d4 := d6
    refine ⟨_, rfl, l, _, rfl, .inl (SqL.of (d4.same _ _ hl4)), _, rfl, by omega, by rw [hql]; omega, fun D hD => ?_⟩
    have nDG := d4.free hD
    have hpr4 : Paired (PairAt G6) qs ps := paired_on (fun _ _ e => s14 _ _ e) hpr
    refine lc_range (lo := 0) (n := (qs.map V.ref).length) (fun i H' => ∃ Gi rs, Same G6 Gi ∧ DSt Gi H' st (m + 28) ∧ Gi D = some (.lst (rs.map V.ref)) ∧ Paired (RowT Gi) rs ((List.range i).map (rowAt ls ws ps))) ⟨_, [], same_upd nDG, d4'.new hD, upd_same, .nil⟩ ?_ ?_
    · rintro i H' hi ⟨Gi, rs, si, di, hDi, hri⟩
      rw [hql] at hi
      obtain ⟨q, hq⟩ : ∃ q, qs[i]? = some q := ⟨_, List.getElem?_eq_getElem (by rw [hpr.length]; exact hi)⟩
      obtain ⟨p, hp, hqp⟩ := L2.paired_get hpr4 hq
      have hqp' : G6 q = some (.tup [.int (p.1 : Int), .int (p.2 : Int)]) := hqp
      obtain ⟨x, y, hx, hy, _⟩ := gr.up p (List.mem_of_getElem? hp)
      have hp1 : p.1 < ws.length := by rw [hw.len]; exact (gr.all _).mp (List.mem_of_getElem? hx)
      have hp2 : p.2 < ws.length := by rw [hw.len]; exact (gr.all _).mp (List.mem_of_getElem? hy)
      have up : ∀ {c : Addr} {u : HO}, G6 c = some u → H' c = some u := fun hc => di.same _ _ (si _ _ hc)
      have idx : (0 + (i : Int)) = (i : Int) := Int.zero_add _
      have aL : atI (ls.map V.str) (0 + (i : Int)) = some (V.str (ls.getD i "")) := by rw [idx]; exact atI_nat (by rw [List.getElem?_map, List.getElem?_eq_getElem (show i < ls.length by omega), getD_of (List.getElem?_eq_getElem (show i < ls.length by omega))]; rfl)
      have aP : atI (qs.map V.ref) (0 + (i : Int)) = some (V.ref q) := by rw [idx]; exact atI_nat (by rw [List.getElem?_map, hq]; rfl)
      have aW : ∀ {v : Nat}, v < ws.length → atI (ws.map V.str) (v : Int) = some (V.str (ws.getD v "")) := fun {v} hv => atI_nat (by rw [List.getElem?_map, List.getElem?_eq_getElem hv, getD_of (List.getElem?_eq_getElem hv)]; rfl)
      refine ⟨rfl, _, rfl, _, rfl, L, _, _, _, rfl, rfl, SqL.of (up hL4), aL, ?_⟩
      refine ⟨_, rfl, _, rfl, _, rfl, l, _, _, _, rfl, rfl, SqL.of (up hl4), aP, q, _, _, .int (p.1 : Int), rfl, rfl, SqT.of (up hqp'), rfl, S2, _, _, _, rfl, rfl, SqL.of (up hW4), aW hp1, ?_⟩
      refine ⟨_, rfl, _, rfl, _, rfl, l, _, _, _, rfl, rfl, SqL.of (up hl4), aP, q, _, _, .int (p.2 : Int), rfl, rfl, SqT.of (up hqp'), rfl, S2, _, _, _, rfl, rfl, SqL.of (up hW4), aW hp2, ?_⟩
      refine ⟨by show 3 ≤ sizeLine; decide, fun U nU => ?_⟩
      have er : rowAt ls ws ps i = (ls.getD i "", ws.getD p.1 "", ws.getD p.2 "") := by unfold rowAt; rw [getD_of hp]
      obtain ⟨d5, h5, p5⟩ := rows_put (e := rowAt ls ws ps i) di hDi hri nU
      rw [er] at d5 h5 p5
      have hrl : (rs.map V.ref).length ≤ 10 := by rw [List.length_map, hri.length, List.length_map, List.length_range]; omega
      refine ⟨_, same_upd nU _ _ (di.same _ _ hDi), small1000 (by omega), _, rs ++ [U], ?_, d5, h5, ?_⟩
      · refine fun c o hc => ?_
        have hci := si _ _ hc
        rw [upd_ne (fun z => by rw [z, nDG] at hc; cases hc), upd_ne (ne_of_none hci (di.free nU))]
        exact hci
      · rw [List.range_succ, List.map_append, List.map_singleton, er]
        exact p5
    · rintro H5 ⟨G5, rs, s5, d5, hD5, hr5⟩
      rw [hql] at hr5
      have hr5 : Paired (RowT G5) rs (rowsOf ls ws ps) := hr5
      have hrl : (rs.map V.ref).length = ps.length := by rw [List.length_map, hr5.length]; unfold rowsOf; rw [List.length_map, List.length_range]
      refine ⟨_, rfl, _, rfl, G5, st, D, m + 28, _, rfl, d5, by omega, hD5, by omega, fun L2 ys H6 nL2 d6 pys => ?_⟩
      obtain ⟨zs, pzs, rfl⟩ := map_perm_inv pys
      obtain ⟨es, pes, hes⟩ := paired_perm pzs hr5
      have s56 : Same G5 (upd G5 L2 (.lst (zs.map V.ref))) := same_upd nL2
      have hW6 : H6 S2 = some (.lst (ws.map V.str)) := d6.same _ _ (s56 _ _ (s5 _ _ hW4))
      have aW : ∀ {v : Nat}, v < ws.length → atI (ws.map V.str) (v : Int) = some (V.str (ws.getD v "")) := fun {v} hv => atI_nat (by rw [List.getElem?_map, List.getElem?_eq_getElem hv, getD_of (List.getElem?_eq_getElem hv)]; rfl)
      have two := gr.two
      refine ⟨_, rfl, S2, _, _, _, rfl, rfl, SqL.of hW6, aW (v := 0) (by rw [hw.len]; omega), _, rfl, S2, _, _, _, rfl, rfl, SqL.of hW6, aW (v := 1) (by rw [hw.len]; omega), by show 3 ≤ sizeLine; decide, fun t2 nt2 => ?_⟩
      have d7 := (d6.new (o := .tup [.ref L2, .str (ws.getD 0 ""), .str (ws.getD 1 "")]) nt2).mono (m' := m + 40) (by omega)
      have nt2G := d6.free nt2
      have s67 := same_upd (o := .tup [.ref L2, .str (ws.getD 0 ""), .str (ws.getD 1 "")]) nt2G
      have nok := rows_ok gr hw hlen hls.nd hls.ok (by omega) ho8
      refine k t2 L2 es _ _ _ _ (((s14.trans s5).trans s56).trans s67) d7 upd_same ⟨zs, s67 _ _ upd_same, paired_on (fun _ _ e => s67 _ _ (s56 _ _ e)) hes⟩ (nok.perm pes) ?_ fun e he => ?_
      · rw [pes.length_eq]
        unfold rowsOf
        rw [List.length_map, List.length_range]
      · have h1 : e.1 ∈ names (rowsOf ls ws ps) := List.mem_map_of_mem (f := (·.1)) (pes.mem_iff.mp he)
        rw [names_rows hlen] at h1
        exact hsub _ h1
end
section
variable {P : Program} {w : World} {K : PySem.W.Frag} {mg : Str → Option Value} {base : Heap}
def spNetw : Sp := fun vs H Q _ => ∃ (G : Hp) (st : Addr) (m c : Nat), vs = [.ref st, .int (c : Int)] ∧ DSt G H st m ∧ m < 700000 ∧ c ≤ 1 ∧
  ∀ (t l : Addr) (es : List Ent) (a b : Str) (G' H' : Hp), Same G G' → DSt G' H' st (m + 80) → G' t = some (.tup [.ref l, .str a, .str b]) → RowsL G' l es → NetOk es a b 8 → es.length ≤ 10 → (∀ e ∈ es, e.1 ∈ linkWs) → Q (.ref t) H'
theorem ok_netw (T : Txt K mg) : FnOk P w K mg base CX0 4 T.f_network T.d_network ["_law_state", "_law_wild"] spNetw := by
  have G_take : FnOk P w K mg base CX0 1 T.f_take T.d_take ["_law_state", "_law_limit"] spTake := ok_take T
  have G_grown := ok_grown (P := P) (w := w) (base := base) T
  have G_named := ok_named (P := P) (w := w) (base := base) T
  refine T.F_network.ok sc_network (fun vs H Q E h => ?_) (fun cdv A outer s H vs Q E hr h => ?_)
  · obtain ⟨G, st, m, c, rfl, _⟩ := h
    rfl
  · obtain ⟨G, st, m, c, rfl, d0, hm, hc, k⟩ := h
    refine ⟨_, (pss_cons (ps_asg (pe_call G_grown (hr.mono (by decide)) rfl T.m_grown T.F_grown.kp T.b_grown .nil pass0 (pa_cons (pv 0) (pa_cons (pe_call G_take (hr.mono (by decide)) rfl T.m_take T.F_take.kp T.b_take .nil pass0 (pa_cons (pv 0) (pa_cons pe_int pa_nil))) (pa_cons (pv 1) pa_nil)))) (pg_tup rfl (pgs_cons (pg_name (i := 2) sc_network.nd rfl (Or.inl rfl)) (pgs_cons (pg_name (i := 3) sc_network.nd rfl (Or.inl rfl)) pgs_nil))))
    (pss_one (ps_ret (pe_call G_named (hr.mono (by decide)) rfl T.m_named T.F_named.kp T.b_named .nil pass0 (pa_cons (pv 0) (pa_cons (pv 2) (pa_cons (pv 3) pa_nil))))))), ?_⟩
    refine ⟨_, rfl, _, rfl, G, st, m, 10, rfl, d0, by omega, by decide, by decide, fun r H1 r0 r1 d1 => ?_⟩
    obtain ⟨n, rfl⟩ := Int.eq_ofNat_of_zero_le r0
    refine ⟨_, rfl, G, st, _, n, c, rfl, d1, by omega, by omega, hc, fun t l ps ord G2 H2 s2 d2 et hps gr hl ho => ?_⟩
    refine ⟨t, _, rfl, SqT.of (d2.same _ _ et), rfl, _, _, rfl, _, _, rfl, rfl, ?_⟩
    exact ⟨_, rfl, _, rfl, _, rfl, G2, st, l, _, ps, ord, rfl, d2, by omega, hps, gr, by omega, by omega, ho, fun t' l' es a b G3 H3 s3 d3 et3 rows nok hel hw => k t' l' es a b G3 H3 (s2.trans s3) (d3.mono (by omega)) et3 rows nok (by omega) hw⟩
end

/-! ### what flows out of some places -/
section
variable {P : Program} {w : World} {K : PySem.W.Frag} {mg : Str → Option Value} {base : Heap}
def flow (f : Ent → Rat) : List Ent → Rat
  | [] => 0
  | e :: r => f e + flow f r
theorem flow_snoc (f : Ent → Rat) (e : Ent) : ∀ l : List Ent, flow f (l ++ [e]) = flow f l + f e
  | [] => by show f e + 0 = 0 + f e; grind
  | x :: l => by show f x + flow f (l ++ [e]) = f x + flow f l + f e; rw [flow_snoc f e l]; grind
/-- the load of a link -/
def lv (es : Tab Rat) (n : Str) : Rat := (fnd es n).getD 0
/-- out: 1, in: -1 -/
def sideR (zs : List Str) (e : Ent) : Rat := (if e.2.1 ∈ zs then 1 else 0) - (if e.2.2 ∈ zs then 1 else 0)
def SeqZ (H : Hp) (p : Addr) (zs : List Str) : Prop := H p = some (.lst (zs.map V.str)) ∨ H p = some (.tup (zs.map V.str))
theorem SeqZ.on {H H' : Hp} {p : Addr} {zs : List Str} (h : SeqZ H p zs) (s : Same H H') : SeqZ H' p zs := h.imp (s _ _) (s _ _)
theorem SeqZ.seq {K : PySem.W.Frag} {H : Hp} {p : Addr} {zs : List Str} (h : SeqZ H p zs) : SqL K H p (zs.map V.str) ∨ SqT K H p (zs.map V.str) := h.imp SqL.of SqT.of
theorem found_at {ts : List Ent} {i : Nat} {e : Ent} (nd : (names ts).Nodup) (h : ts[i]? = some e) : found ts e.1 = some e.2 := by
  unfold found
  have hm := List.mem_of_getElem? h
  have : ts.find? (fun x => decide (x.1 = e.1)) = some e := by
    clear h
    unfold names at nd
    induction ts with
    | nil => cases hm
    | cons x r ih =>
      rw [List.map_cons, List.nodup_cons] at nd
      rcases List.mem_cons.mp hm with h | h
      · rw [List.find?_cons_of_pos (by simp [h]), h]
      · have ne : x.1 ≠ e.1 := fun z => nd.1 (by rw [z]; exact List.mem_map_of_mem (f := (·.1)) h)
        rw [List.find?_cons_of_neg (by simp [ne])]
        exact ih nd.2 h
  rw [this]
  rfl
theorem lv_at {R : V → Rat → Prop} {ks : List (Key × V)} {es : Tab Rat} {n : Str} (p : Paired (EntG R) ks es) (h : n ∈ nms es) : ∃ v, valV ks (.inr n : Key) = some v ∧ R v (lv es n) := by
  rcases val_of (n := n) p with ⟨e1, _⟩ | ⟨x, v, e1, e2, r⟩
  · have := fnd_isSome (es := es) (n := n)
    rw [e1, decide_eq_true h] at this
    cases this
  · refine ⟨v, e2, ?_⟩
    unfold lv
    rw [e1]
    exact r
theorem on_num {C q : Addr} {H : Hp} {v : V} {x y : Rat} {n k : Nat} {sp : Sp} {E : XK} {Q : VK} (rq : RV C H q y k) (nv : NV C H v x n) (h : sp [.ref q, v] H Q E) : rOO C sp E (.ref q) v H Q ∨ rOI C sp E (.ref q) v H Q := by
  obtain ⟨t, b, ⟨dx, e⟩, _⟩ := rq
  obtain ⟨t', b', nm, _⟩ := nv
  rcases nm with ⟨rfl, _⟩ | ⟨a, rfl, dy, e'⟩
  · exact .inr ⟨q, dx, _, t', rfl, rfl, e, h⟩
  · exact .inl ⟨q, dx, _, a, dy, _, rfl, rfl, e, e', h⟩
def spOut (C RC : Addr) : Sp := fun vs H Q _ => ∃ (n d p : Addr) (s t : Str) (ts : List Ent) (ps zs : List Str) (es : Tab Rat) (m : Nat), vs = [.ref n, .ref d, .ref p] ∧ NetAt C H n s t ts ps ∧ DictN RC H d es m ∧ SeqZ H p zs ∧ missing es ts = none ∧ (names ts).Nodup ∧ ts.length ≤ 10 ∧ m ≤ 300 ∧
  ∀ q H', Same H H' → RV RC H' q (flow (fun e => sideR zs e * lv es e.1) ts) (1 + ts.length * (m + 1)) → Q (.ref q) H'
theorem ok_out (T : Txt K mg) : FnOk P w K mg base CX0 6 T.f_outflow T.d_outflow ["network", "loads", "places"] (spOut T.f_Network T.f_Ratio) := by
  have G_Network_names : FnOk P w K mg base CX0 1 T.f_Network_names T.d_Network_names ["self"] (spNNames T.f_Network) := ok_nnames T
  have GX_Network_getitem : FnOk P w K mg base (L2.CX P w) 3 T.f_Network_getitem T.d_Network_getitem ["self", "name"] (spNGet T.f_Network T.f_UnknownName) := ok_nget T
  have G_Network_getitem := calm_of GX_Network_getitem
  have G_Ratio_init : FnOk P w K mg base CX0 1 T.f_Ratio_init T.d_Ratio_init ["self", "top", "bottom"] (spInit T.f_Ratio) := ok_init T
  have G_Ratio_add := okv_add (P := P) (w := w) (base := base) T
  have G_Ratio_sub := okv_sub (P := P) (w := w) (base := base) T
  refine T.F_outflow.ok sc_outflow (fun vs H Q E h => ?_) (fun cdv A outer s H vs Q E hr h => ?_)
  · obtain ⟨n, d, p, s, t, ts, ps, zs, es, m, rfl, _⟩ := h
    rfl
  · obtain ⟨n, d, p, s, t, ts, ps, zs, es, m, rfl, hn, hd, hp, hmis, nd, h10, hm, k⟩ := h
    refine ⟨_, (pss_cons (ps_set (i := 3) sc_outflow.nd rfl (Or.inl rfl) (pe_make T.mk_Ratio G_Ratio_init (hr.mono (by decide)) rfl T.m_Ratio T.b1_Ratio_init T.v1_Ratio_init pass0 (pa_cons pe_int pa_nil)))
    (C8.pss_cut (ps_for PassesOwn.never rfl (pi_tup (pe_prop (pv 0) T.cl_Network T.p_Network_names G_Network_names (hr.mono (by decide)) T.b_Network_names .nil pass0 rfl)) (pg_name (i := 4) sc_outflow.nd rfl (Or.inl rfl))
      (pss_cons (ps_asg (pe_getO T.dn_Network_getitem G_Network_getitem (hr.mono (by decide)) T.b_Network_getitem (fun σ => passesAtOf pass0 σ) (pv 0) (pv 4) (fun _ _ => rfl)) (pg_tup rfl (pgs_cons (pg_name (i := 5) sc_outflow.nd rfl (Or.inl rfl)) (pgs_cons (pg_name (i := 6) sc_outflow.nd rfl (Or.inl rfl)) pgs_nil))))
    (C8.pss_cut (ps_if (PW.pt (pw_and (pt_cmpR op_in_seq (pv 5) (pv 2) (by with_unfolding_all rfl)) (pw_and1 (pt_cmpR op_notIn_seq (pv 6) (pv 2) (by with_unfolding_all rfl)))))
      (pss_one (ps_set (i := 3) sc_outflow.nd rfl (Or.inl rfl) (pe_op (op_or (op_oo (nm := "add") rfl T.op_Ratio_add G_Ratio_add (hr.mono (by decide)) T.b_Ratio_add pass0) (op_oi (nm := "add") rfl T.op_Ratio_add G_Ratio_add (hr.mono (by decide)) T.b_Ratio_add pass0)) (pv 3) (pe_dget (hu_of hr) (pv 1) (pv 4) (fun _ _ => rfl)))))
      pss_nil)
    (pss_one (ps_if (PW.pt (pw_and (pt_cmpR op_in_seq (pv 6) (pv 2) (by with_unfolding_all rfl)) (pw_and1 (pt_cmpR op_notIn_seq (pv 5) (pv 2) (by with_unfolding_all rfl)))))
      (pss_one (ps_set (i := 3) sc_outflow.nd rfl (Or.inl rfl) (pe_op (op_or (op_oo (nm := "sub") rfl T.op_Ratio_sub G_Ratio_sub (hr.mono (by decide)) T.b_Ratio_sub pass0) (op_oi (nm := "sub") rfl T.op_Ratio_sub G_Ratio_sub (hr.mono (by decide)) T.b_Ratio_sub pass0)) (pv 3) (pe_dget (hu_of hr) (pv 1) (pv 4) (fun _ _ => rfl)))))
      pss_nil)))))
    (pss_one (ps_ret (pv 3))))), ?_⟩
    obtain ⟨dx, d0, pp, b, kvs, h1, hD0, _⟩ := id hn
    obtain ⟨ks, ed, pd⟩ := id hd
    have hin : ∀ z ∈ names ts, z ∈ nms es := fun z hz => by
      have := List.find?_eq_none.mp hmis z hz
      simpa using this
    intro q0 dq0 nq0 ndq0 neq0
    refine ⟨q0, dq0, 0, 1, rfl, upd_same, by decide, Nat.one_lt_two_pow (by decide), fun K1 rk st1 => ⟨rfl, ?_⟩⟩
    have s1 := Same.made nq0 ndq0 st1
    have r0 : RV T.f_Ratio K1 q0 0 1 := ⟨_, _, rk, Low.of (by decide), by rw [vq_low (by decide), vq_one]; rfl, by unfold Sz lowT lowB dvs; decide⟩
    refine ⟨fun σ H' => ∃ q x4 x5 x6, σ = [some (.ref n), some (.ref d), some (.ref p), some (.ref q), x4, x5, x6] ∧ Same H H' ∧ RV T.f_Ratio H' q (flow (fun e => sideR zs e * lv es e.1) ts) (1 + ts.length * (m + 1)), ?_, ?_⟩
    · refine ⟨_, rfl, n, dx, _, rfl, s1 _ _ h1, n, s, t, ts, ps, rfl, hn.same s1, fun l H1 nl s2 el => ?_⟩
      refine ⟨l, rfl, ⟨_, SqT.of el⟩, ?_⟩
      refine for_tup (K := K) (a := l) (xs := (names ts).map V.str) (fun i σ H' => ∃ q x4 x5 x6, σ = [some (.ref n), some (.ref d), some (.ref p), some (.ref q), x4, x5, x6] ∧ Same H1 H' ∧ RV T.f_Ratio H' q (flow (fun e => sideR zs e * lv es e.1) (ts.take i)) (1 + i * (m + 1))) ⟨q0, _, _, _, rfl, Same.refl _, (r0.on s2).mono (by omega)⟩ (fun i σ H' _ ⟨_, _, _, _, _, s, _⟩ => SqT.of (s _ _ el)) ?_ ?_
      · rintro i v σ H' hi ⟨q, x4, x5, x6, rfl, s3, rq⟩
        rw [List.getElem?_map] at hi
        cases ee : ts[i]? with
        | none =>
          have : (names ts)[i]? = none := by unfold names; rw [List.getElem?_map, ee]; rfl
          rw [this] at hi; cases hi
        | some e =>
          have en : (names ts)[i]? = some e.1 := by unfold names; rw [List.getElem?_map, ee]; rfl
          rw [en] at hi
          obtain rfl := Option.some.inj hi
          have sH := (s1.trans s2).trans s3
          have hi10 : i < ts.length := (List.getElem?_eq_some_iff.mp ee).1
          have hf := found_at nd ee
          refine ⟨_, rfl, _, rfl, n, dx, _, rfl, sH _ _ h1, n, s, t, ts, ps, e.1, rfl, hn.same sH, fun u pq hu hpq => ?_, fun hu => by rw [hf] at hu; cases hu⟩
          obtain rfl : e.2 = u := Option.some.inj (hf.symm.trans hu)
          refine ⟨pq, _, rfl, SqT.of hpq, rfl, _, _, rfl, _, _, rfl, rfl, ?_⟩
          obtain ⟨v, hv, nv⟩ := lv_at pd (hin e.1 (List.mem_of_getElem? en))
          have hvg : ∀ {H'' : Hp}, Same H' H'' → DGet H'' d (.str e.1) (some v) := fun {H''} sm => by rw [← hv]; exact DGet.k (k := .inr e.1) (sm _ _ (sH _ _ ed))
          have nv := nv.on sH
          have hz := hp.on sH
          have tk := take_more ee
          have e1 : 1 + i * (m + 1) + m + 1 = 1 + (i + 1) * (m + 1) := by rw [Nat.add_mul]; omega
          have im : i * (m + 1) ≤ 10 * 301 := Nat.mul_le_mul (by omega) (by omega)
          refine ⟨fun σ H'' => ∃ q', σ = [some (.ref n), some (.ref d), some (.ref p), some (.ref q'), some (.str e.1), some (.str e.2.1), some (.str e.2.2)] ∧ Same H' H'' ∧
            ((e.2.1 ∈ zs ∧ e.2.2 ∉ zs ∧ RV T.f_Ratio H'' q' (flow (fun e => sideR zs e * lv es e.1) (ts.take i) + lv es e.1) (1 + (i + 1) * (m + 1))) ∨ (¬ (e.2.1 ∈ zs ∧ e.2.2 ∉ zs) ∧ RV T.f_Ratio H'' q' (flow (fun e => sideR zs e * lv es e.1) (ts.take i)) (1 + i * (m + 1)))), ?_, ?_⟩
          · refine ⟨_, rfl, _, rfl, p, _, rfl, hz.seq, rfl, flat_names zs, _, rfl, ?_⟩
            rw [if_neg Bool.false_ne_true, inV_names]
            by_cases c1 : e.2.1 ∈ zs
            · rw [decide_eq_true c1]
              refine iteT ?_
              refine ⟨_, rfl, _, rfl, p, _, rfl, hz.seq, rfl, flat_names zs, _, rfl, ?_⟩
              rw [if_pos rfl, inV_names]
              by_cases c2 : e.2.2 ∈ zs
              · rw [decide_eq_true c2]
                exact iteF ⟨q, rfl, Same.refl _, .inr ⟨fun z => z.2 c2, rq⟩⟩
              · rw [decide_eq_false c2]
                refine iteT ?_
                refine ⟨_, rfl, _, rfl, _, rfl, d, v, rfl, hvg (Same.refl _), ?_⟩
                refine on_num rq nv ⟨q, v, _, _, _, _, rfl, rq, nv, by omega, by omega, fun q' H5 nq' s5 r5 => ?_⟩
                exact ⟨q', rfl, s5, .inl ⟨c1, c2, r5.mono (by omega)⟩⟩
            · rw [decide_eq_false c1]
              exact iteF ⟨q, rfl, Same.refl _, .inr ⟨fun z => c1 z.1, rq⟩⟩
          · rintro σ H2 ⟨q', rfl, s4, hq⟩
            have hz := hz.on s4
            have nv := nv.on s4
            refine ⟨_, rfl, _, rfl, p, _, rfl, hz.seq, rfl, flat_names zs, _, rfl, ?_⟩
            rw [if_neg Bool.false_ne_true, inV_names, tk]
            have fin : ∀ {q2 : Addr} {H5 : Hp} {y : Rat}, Same H2 H5 → RV T.f_Ratio H5 q2 y (1 + (i + 1) * (m + 1)) → y = flow (fun e => sideR zs e * lv es e.1) (ts.take i) + sideR zs e * lv es e.1 → ∃ q x4 x5 x6, ([some (V.ref n), some (.ref d), some (.ref p), some (.ref q2), some (.str e.1), some (.str e.2.1), some (.str e.2.2)] : L2.St) = [some (.ref n), some (.ref d), some (.ref p), some (.ref q), x4, x5, x6] ∧ Same H1 H5 ∧ RV T.f_Ratio H5 q (flow (fun e => sideR zs e * lv es e.1) (ts.take i ++ [e])) (1 + (i + 1) * (m + 1)) := fun {q2} {H5} {y} s5 r5 ey => ⟨q2, _, _, _, rfl, (s3.trans s4).trans s5, by rw [flow_snoc]; rw [ey] at r5; exact r5⟩
            have hle : 1 + i * (m + 1) ≤ 1 + (i + 1) * (m + 1) := by omega
            by_cases c2 : e.2.2 ∈ zs
            · rw [decide_eq_true c2]
              refine iteT ?_
              have hq : RV T.f_Ratio H2 q' (flow (fun e => sideR zs e * lv es e.1) (ts.take i)) (1 + i * (m + 1)) := by
                rcases hq with ⟨_, c, _⟩ | ⟨_, h⟩
                · exact absurd c2 c
                · exact h
              refine ⟨_, rfl, _, rfl, p, _, rfl, hz.seq, rfl, flat_names zs, _, rfl, ?_⟩
              rw [if_pos rfl, inV_names]
              by_cases c1 : e.2.1 ∈ zs
              · rw [decide_eq_true c1]
                refine iteF (fin (Same.refl _) (hq.mono hle) ?_)
                unfold sideR
                rw [if_pos c1, if_pos c2]
                grind
              · rw [decide_eq_false c1]
                refine iteT ?_
                refine ⟨_, rfl, _, rfl, _, rfl, d, v, rfl, hvg s4, ?_⟩
                refine on_num hq nv ⟨q', v, _, _, _, _, rfl, hq, nv, by omega, by omega, fun q2 H5 nq2 s5 r5 => ?_⟩
                refine fin s5 (r5.mono (by omega)) ?_
                unfold sideR
                rw [if_neg c1, if_pos c2]
                grind
            · rw [decide_eq_false c2]
              refine iteF ?_
              rcases hq with ⟨c1, _, h⟩ | ⟨c, h⟩
              · refine fin (Same.refl _) h ?_
                unfold sideR
                rw [if_pos c1, if_neg c2]
                grind
              · have c1 : e.2.1 ∉ zs := fun z => c ⟨z, c2⟩
                refine fin (Same.refl _) (h.mono hle) ?_
                unfold sideR
                rw [if_neg c1, if_neg c2]
                grind
      · rintro σ H' ⟨q, x4, x5, x6, rfl, s3, rq⟩
        rw [List.length_map, show (names ts).length = ts.length from by unfold names; rw [List.length_map], List.take_length] at rq
        exact ⟨q, x4, x5, x6, rfl, (s1.trans s2).trans s3, rq⟩
    · rintro σ H' ⟨q, x4, x5, x6, rfl, s3, rq⟩
      exact ⟨_, rfl, k q _ s3 rq⟩
end
section
variable {P : Program} {w : World} {K : PySem.W.Frag} {mg : Str → Option Value} {base : Heap}
/-- what cut_load answers: the first place or link that is not known, or the load -/
def cutAns (ts : List Ent) (ps zs : List Str) (es : Tab Rat) : Str ⊕ Rat :=
  match zs.find? (fun z => !decide (z ∈ ps)) with
  | some z => .inl z
  | none => match missing es ts with
    | some z => .inl z
    | none => .inr (flow (fun e => sideR zs e * lv es e.1) ts)
def spCut (C RC D : Addr) : Sp := fun vs H Q E => ∃ (n d p : Addr) (s t : Str) (ts : List Ent) (ps zs : List Str) (es : Tab Rat) (m : Nat), vs = [.ref n, .ref d, .ref p] ∧ NetAt C H n s t ts ps ∧ DictN RC H d es m ∧ SeqZ H p zs ∧ (names ts).Nodup ∧ ts.length ≤ 10 ∧ m ≤ 300 ∧
  (∀ z, cutAns ts ps zs es = .inl z → Raised H "name" (.str z) D E) ∧ ∀ x, cutAns ts ps zs es = .inr x → ∀ q H', Same H H' → RV RC H' q x (1 + ts.length * (m + 1)) → Q (.ref q) H'
theorem ok_cut (T : Txt K mg) : FnOk P w K mg base (L2.CX P w) 7 T.f_cut_load T.d_cut_load ["network", "loads", "places"] (spCut T.f_Network T.f_Ratio T.f_UnknownName) := by
  have G_UnknownName_init : FnOk P w K mg base CX0 1 T.f_UnknownName_init T.d_UnknownName_init ["self", "name"] (spErr "name" T.f_UnknownName) := ok_eUnknownName T
  have G_Network_places : FnOk P w K mg base CX0 1 T.f_Network_places T.d_Network_places ["self"] (spNPlaces T.f_Network) := ok_nplaces T
  have GX_check_loads := ok_cloads (P := P) (w := w) (base := base) T
  have G_outflow := ok_out (P := P) (w := w) (base := base) T
  refine T.F_cut_load.okX sc_cut_load (fun vs H Q E h => ?_) (fun cdv A outer s H vs Q E hr h => ?_)
  · obtain ⟨n, d, p, s, t, ts, ps, zs, es, m, rfl, _⟩ := h
    rfl
  · obtain ⟨n, d, p, s, t, ts, ps, zs, es, m, rfl, hn, hd, hp, nd, h10, hm, k1, k2⟩ := h
    refine ⟨_, (C8.pss_cut (ps_for (passes_of rfl) rfl (pi_seq (pv 2)) (pg_name (i := 3) sc_cut_load.nd rfl (Or.inl rfl))
      (pss_one (ps_if (pt_cmpR op_notIn_seq (pv 3) (pe_prop (pv 0) T.cl_Network T.p_Network_places G_Network_places (hr.mono (by decide)) T.b_Network_places .nil pass0 rfl) (by with_unfolding_all rfl))
      (pss_one (ps_raise rfl (takes_of rfl rfl rfl rfl) (pmk_oex T.ox_UnknownName T.ix_UnknownName T.tx_UnknownName G_UnknownName_init (hr.mono (by decide)) T.b_UnknownName_init .nil pass0 rfl T.m_UnknownName (pa_cons (pv 3) pa_nil))))
      pss_nil)))
    (pss_cons (ps_expr (pe_call GX_check_loads (hr.mono (by decide)) rfl T.m_check_loads T.F_check_loads.kp T.b_check_loads .nil (passX (takes_of rfl rfl rfl rfl)) (pa_cons (pv 0) (pa_cons (pv 1) pa_nil))))
    (pss_one (ps_ret (pe_call G_outflow (hr.mono (by decide)) rfl T.m_outflow T.F_outflow.kp T.b_outflow .nil pass0 (pa_cons (pv 0) (pa_cons (pv 1) (pa_cons (pv 2) pa_nil)))))))), ?_⟩
    obtain ⟨dx, d0, pp, b, kvs, h1, _⟩ := id hn
    refine ⟨fun σ H' => ∃ x3, σ = [some (.ref n), some (.ref d), some (.ref p), x3] ∧ Same H H' ∧ zs.find? (fun z => !decide (z ∈ ps)) = none, ?_, ?_⟩
    · refine ⟨_, rfl, p, rfl, ?_⟩
      rcases hp with ep | ep
      · refine .inl ⟨⟨_, SqL.of ep⟩, ?_⟩
        refine for_list (K := K) (a := p) (xs := zs.map V.str) (fun i σ H' => ∃ x3, σ = [some (.ref n), some (.ref d), some (.ref p), x3] ∧ Same H H' ∧ ∀ z ∈ zs.take i, z ∈ ps) ⟨_, rfl, Same.refl _, fun z hz => by simp at hz⟩ (fun i σ H' _ ⟨_, _, s, _⟩ => SqL.of (s _ _ ep)) ?_ ?_
        · rintro i v σ H' hi ⟨x3, rfl, s2, hz⟩
          rw [List.getElem?_map] at hi
          cases ez : zs[i]? with
          | none => rw [ez] at hi; cases hi
          | some z =>
            rw [ez] at hi
            obtain rfl := Option.some.inj hi
            refine ⟨_, rfl, _, rfl, n, dx, _, rfl, s2 _ _ h1, n, s, t, ts, ps, rfl, hn.same s2, fun pl epl => ?_⟩
            refine ⟨pl, _, rfl, .inr (SqT.of epl), rfl, flat_names ps, _, rfl, ?_⟩
            rw [if_pos rfl, inV_names]
            by_cases hm : z ∈ ps
            · rw [decide_eq_true hm]
              refine iteF ⟨_, rfl, s2, fun y hy => ?_⟩
              rw [take_more ez] at hy
              rcases List.mem_append.mp hy with hy | hy
              · exact hz y hy
              · rw [List.mem_singleton.mp hy]; exact hm
            · rw [decide_eq_false hm]
              refine iteT ?_
              refine ⟨_, rfl, (by show 1 ≤ 1000; decide), fun a na => ?_⟩
              refine ⟨a, .str z, rfl, upd_same, fun dd H' nd ne eq => ⟨rfl, dd, [("name", .str z)], ?_⟩⟩
              have hf : zs.find? (fun z => !decide (z ∈ ps)) = some z := find_at (fun y hy => by rw [decide_eq_true (hz y hy)]; rfl) ez (by rw [decide_eq_false hm]; rfl)
              exact raise_asks na ((k1 z (by unfold cutAns; rw [hf])).on s2) dd H' nd ne eq
        · rintro σ H' ⟨x3, rfl, s2, hz⟩
          refine ⟨x3, rfl, s2, ?_⟩
          rw [List.length_map, List.take_length] at hz
          rw [List.find?_eq_none]
          intro z hz'
          rw [decide_eq_true (hz z hz')]
          decide
      · refine .inr ⟨⟨_, SqT.of ep⟩, ?_⟩
        refine for_tup (K := K) (a := p) (xs := zs.map V.str) (fun i σ H' => ∃ x3, σ = [some (.ref n), some (.ref d), some (.ref p), x3] ∧ Same H H' ∧ ∀ z ∈ zs.take i, z ∈ ps) ⟨_, rfl, Same.refl _, fun z hz => by simp at hz⟩ (fun i σ H' _ ⟨_, _, s, _⟩ => SqT.of (s _ _ ep)) ?_ ?_
        · rintro i v σ H' hi ⟨x3, rfl, s2, hz⟩
          rw [List.getElem?_map] at hi
          cases ez : zs[i]? with
          | none => rw [ez] at hi; cases hi
          | some z =>
            rw [ez] at hi
            obtain rfl := Option.some.inj hi
            refine ⟨_, rfl, _, rfl, n, dx, _, rfl, s2 _ _ h1, n, s, t, ts, ps, rfl, hn.same s2, fun pl epl => ?_⟩
            refine ⟨pl, _, rfl, .inr (SqT.of epl), rfl, flat_names ps, _, rfl, ?_⟩
            rw [if_pos rfl, inV_names]
            by_cases hm : z ∈ ps
            · rw [decide_eq_true hm]
              refine iteF ⟨_, rfl, s2, fun y hy => ?_⟩
              rw [take_more ez] at hy
              rcases List.mem_append.mp hy with hy | hy
              · exact hz y hy
              · rw [List.mem_singleton.mp hy]; exact hm
            · rw [decide_eq_false hm]
              refine iteT ?_
              refine ⟨_, rfl, (by show 1 ≤ 1000; decide), fun a na => ?_⟩
              refine ⟨a, .str z, rfl, upd_same, fun dd H' nd ne eq => ⟨rfl, dd, [("name", .str z)], ?_⟩⟩
              have hf : zs.find? (fun z => !decide (z ∈ ps)) = some z := find_at (fun y hy => by rw [decide_eq_true (hz y hy)]; rfl) ez (by rw [decide_eq_false hm]; rfl)
              exact raise_asks na ((k1 z (by unfold cutAns; rw [hf])).on s2) dd H' nd ne eq
        · rintro σ H' ⟨x3, rfl, s2, hz⟩
          refine ⟨x3, rfl, s2, ?_⟩
          rw [List.length_map, List.take_length] at hz
          rw [List.find?_eq_none]
          intro z hz'
          rw [decide_eq_true (hz z hz')]
          decide
    · rintro σ H1 ⟨x3, rfl, s1, hz⟩
      have ea : cutAns ts ps zs es = match missing es ts with | some z => .inl z | none => .inr (flow (fun e => sideR zs e * lv es e.1) ts) := by
        unfold cutAns
        rw [hz]
      refine ⟨_, rfl, _, rfl, n, d, s, t, ts, ps, es, m, rfl, hn.same s1, hd.on s1, fun z hm => (k1 z (by rw [ea, hm])).on s1, fun hm H2 s2 => ?_⟩
      have s12 := s1.trans s2
      exact ⟨_, rfl, _, rfl, _, rfl, n, d, p, s, t, ts, ps, zs, es, m, rfl, hn.same s12, hd.on s12, hp.on s12, hm, nd, h10, by omega, fun q H3 s3 r => k2 _ (by rw [ea, hm]) q H3 (s12.trans s3) r⟩
end

/-! ### what is told of it -/
section
variable {P : Program} {w : World} {K : PySem.W.Frag} {mg : Str → Option Value} {base : Heap}
def TolAt (RC : Addr) (H : Hp) (T : Addr) (r : Str ⊕ Rat) (k : Nat) : Prop := match r with
  | .inl z => H T = some (.tup [.str "unknown", .str z])
  | .inr x => ∃ q, H T = some (.tup [.str "load", .ref q]) ∧ RV RC H q x k
theorem TolAt.on {RC : Addr} {H H' : Hp} {T : Addr} {r : Str ⊕ Rat} {k : Nat} (t : TolAt RC H T r k) (s : Same H H') : TolAt RC H' T r k := by
  cases r with
  | inl z => exact s _ _ t
  | inr x => exact let ⟨q, a, b⟩ := t; ⟨q, s _ _ a, b.on s⟩
def spTold (C RC : Addr) : Sp := fun vs H Q _ => ∃ (n d p : Addr) (s t : Str) (ts : List Ent) (ps zs : List Str) (es : Tab Rat) (m : Nat), vs = [.ref n, .ref d, .ref p] ∧ NetAt C H n s t ts ps ∧ DictN RC H d es m ∧ SeqZ H p zs ∧ (names ts).Nodup ∧ ts.length ≤ 10 ∧ m ≤ 300 ∧
  ∀ T H', Same H H' → TolAt RC H' T (cutAns ts ps zs es) (1 + ts.length * (m + 1)) → Q (.ref T) H'
theorem ok_told (T : Txt K mg) : FnOk P w K mg base CX0 8 T.f_told T.d_told ["_law_net", "_law_handed", "_law_spots"] (spTold T.f_Network T.f_Ratio) := by
  have GX_cut_load := ok_cut (P := P) (w := w) (base := base) T
  refine T.F_told.ok sc_told (fun vs H Q E h => ?_) (fun cdv A outer s H vs Q E hr h => ?_)
  · obtain ⟨n, d, p, s, t, ts, ps, zs, es, m, rfl, _⟩ := h
    rfl
  · obtain ⟨n, d, p, s, t, ts, ps, zs, es, m, rfl, hn, hd, hp, nd, h10, hm, k⟩ := h
    refine ⟨_, (pss_one (ps_try_as (i := 3) rfl rfl sc_told.nd rfl rfl ⟨rfl, by decide, .inl T.m_UnknownName⟩ takes0 (fun W pn xe tk _ =>
      (pss_one (ps_ret (pe_tup (pa_cons pe_str (pa_cons (pe_callK0S GX_cut_load (hr.mono (by decide)) rfl T.m_cut_load T.F_cut_load.kp T.kb_cut_load_0_places_loads_network (fun σ => passAt tk σ) (pk_cons (pv 2) (pk_cons (pv 1) (pk_cons (pv 0) pk_nil)))) pa_nil)))))) (fun a oe cls d pn hz hf =>
      (pss_one (ps_ret (pe_tup (pa_cons pe_str (pa_cons (pe_xf T.xf_UnknownName T.no_UnknownName_name hz hf (pv 3)) pa_nil)))))))), ?_⟩
    refine ⟨_, rfl, _, rfl, _, rfl, n, d, p, s, t, ts, ps, zs, es, m, rfl, hn, hd, hp, nd, h10, hm, fun z hz dd H' nd s1 hd => ?_, fun x hx q H' s1 r => ?_⟩
    · refine ⟨true, PySem.W.exm_ref T.ec_UnknownName.hs T.ec_UnknownName.hd T.ox_UnknownName.tyC T.es_UnknownName_UnknownName, fun _ a na => ?_, fun q => nomatch q⟩
      refine ⟨_, rfl, rfl, rfl, dd, _, _, rfl, hd, rfl, by show 2 ≤ sizeLine; decide, fun l nl => k l _ (s1.trans (same_upd nl)) ?_⟩
      rw [hz]
      exact upd_same
    · refine ⟨by show 2 ≤ sizeLine; decide, fun l nl => k l _ (s1.trans (same_upd nl)) ?_⟩
      rw [hx]
      exact ⟨q, upd_same, r.on (same_upd nl)⟩
end

/-! ### what ways bear -/
theorem sum_set : ∀ {as : List Nat} {i x : Nat} (h : as[i]? = some x) (y : Nat), (as.set i (x + y)).sum = as.sum + y
  | [], i, x, h, y => by simp at h
  | a :: r, 0, x, h, y => by
    obtain rfl : a = x := Option.some.inj h
    show (a + y) + r.sum = a + r.sum + y
    omega
  | a :: r, i + 1, x, h, y => by
    have ih := sum_set (as := r) (i := i) (x := x) h y
    show a + (r.set i (x + y)).sum = a + r.sum + y
    omega
def nats (as : List Nat) : List V := as.map fun a : Nat => V.int (a : Int)
section
variable {P : Program} {w : World} {K : PySem.W.Frag} {mg : Str → Option Value} {base : Heap}
def spAmounts : Sp := fun vs H Q _ => ∃ (G : Hp) (st l : Addr) (m : Nat) (xs : List V), vs = [.ref st, .ref l, .int 9] ∧ DSt G H st m ∧ m < 700000 ∧ G l = some (.lst xs) ∧ 0 < xs.length ∧ xs.length < 2 ^ 24 ∧
  ∀ (L : Addr) (as : List Nat) (H' : Hp), G L = none → DSt (upd G L (.lst (nats as))) H' st (m + 20) → as.length = xs.length → as.sum ≤ 36 → Q (.ref L) H'
theorem ok_amounts (T : Txt K mg) : FnOk P w K mg base CX0 2 T.f_amounts T.d_amounts ["_law_state", "_law_ways_here", "_law_most"] spAmounts := by
  have G_take : FnOk P w K mg base CX0 1 T.f_take T.d_take ["_law_state", "_law_limit"] spTake := ok_take T
  refine T.F_amounts.ok sc_amounts (fun vs H Q E h => ?_) (fun cdv A outer s H vs Q E hr h => ?_)
  · obtain ⟨G, st, l, m, xs, rfl, _⟩ := h
    rfl
  · obtain ⟨G, st, l, m, xs, rfl, d, hm, el, hx0, hx1, k⟩ := h
    refine ⟨_, (pss_cons (ps_setLc (i := 3) (own := [("_law_way", 6)]) (g := gName 6) (tt := tYes) rfl sc_amounts.nd rfl rfl (sw_true rfl rfl rfl (by decide +kernel)) (pi_list (pv 1)) (blkOk_by (N := ["_law_state", "_law_ways_here", "_law_most", "_law_amounts_here", "_law_turn", "_law_spot", "_law_way"]) (sc := defScope s_amounts) (by decide +kernel)) (fun _ _ _ _ _ => pg_name (i := 6) sc_amounts.nd rfl (Or.inl rfl)) (fun _ _ _ _ _ => pts_nil) (fun _ _ _ _ _ => pe_int))
    (C8.pss_cut (ps_for PassesOwn.never rfl (pi_range1 rfl T.n_range (pa_cons (pe_op op_add pe_int (pe_call G_take (hr.mono (by decide)) rfl T.m_take T.F_take.kp T.b_take .nil pass0 (pa_cons (pv 0) (pa_cons pe_int pa_nil)))) pa_nil)) (pg_name (i := 4) sc_amounts.nd rfl (Or.inl rfl))
      (pss_cons (ps_set (i := 5) sc_amounts.nd rfl (Or.inl rfl) (pe_call G_take (hr.mono (by decide)) rfl T.m_take T.F_take.kp T.b_take .nil pass0 (pa_cons (pv 0) (pa_cons (pe_callB call_len_seq (by rfl) T.n_len (by decide +kernel) (pa_cons (pv 1) pa_nil)) pa_nil))))
    (pss_one (ps_asg (pe_op op_add (pe_op op_add (pe_ix ix_list (pv 3) (pv 5) (fun _ _ => rfl)) pe_int) (pe_call G_take (hr.mono (by decide)) rfl T.m_take T.F_take.kp T.b_take .nil pass0 (pa_cons (pv 0) (pa_cons (pv 2) pa_nil)))) (pg_sub (pv 3) (pv 5) set_list)))))
    (pss_one (ps_ret (pv 3))))), ?_⟩
    refine ⟨_, rfl, l, rfl, ⟨_, SqL.of (d.same _ _ el)⟩, fun D nD => ?_⟩
    have gD := d.free nD
    have Dl : l ≠ D := ne_of_none el gD
    have hsz : (2 : Nat) ^ 24 = sizeLine := by decide
    refine lc_list (K := K) (a := l) (xs := xs) (fun i H' => H' = upd H D (.lst (nats (List.replicate i 0)))) ?_ (fun i H' _ e => by rw [e]; exact SqL.of (by rw [upd_ne Dl]; exact d.same _ _ el)) ?_ ?_
    · rfl
    · rintro i x H' hi rfl
      have hi' := (List.getElem?_eq_some_iff.mp hi).1
      refine ⟨rfl, nats (List.replicate i 0), upd_same, by unfold nats; rw [List.length_map, List.length_replicate]; omega, ?_⟩
      rw [List.replicate_succ']
      unfold nats
      rw [List.map_append]
      funext c
      by_cases ec : c = D
      · rw [ec, upd_same, upd_same]; rfl
      · rw [upd_ne ec, upd_ne ec, upd_ne ec]
    rintro H1 rfl
    have d1 := d.new (o := .lst (nats (List.replicate xs.length 0))) nD
    generalize upd H D (.lst (nats (List.replicate xs.length 0))) = H1 at d1 ⊢
    refine ⟨fun σ H' => ∃ (x4 x5 x6 : Option V) (as : List Nat), σ = [some (.ref st), some (.ref l), some (.int 9), some (.ref D), x4, x5, x6] ∧ DSt (upd G D (.lst (nats as))) H' st (m + 20) ∧ as.length = xs.length ∧ as.sum ≤ 36, ?_, ?_⟩
    · refine ⟨_, rfl, upd G D (.lst (nats (List.replicate xs.length 0))), st, m, 4, rfl, d1, by omega, by decide, by decide, fun r H2 r0 r1 d2 => ?_⟩
      obtain ⟨rn, rfl⟩ := Int.eq_ofNat_of_zero_le r0
      refine ⟨_, _, rfl, rfl, ((1 + rn : Nat) : Int), by push_cast; rfl, by omega, by omega, ?_⟩
      rw [Int.toNat_natCast]
      refine for_range (lo := 0) (n := 1 + rn) (fun i σ H' => ∃ (x4 x5 x6 : Option V) (as : List Nat), σ = [some (.ref st), some (.ref l), some (.int 9), some (.ref D), x4, x5, x6] ∧ DSt (upd G D (.lst (nats as))) H' st (m + 1 + 2 * i) ∧ as.length = xs.length ∧ as.sum ≤ 9 * i) ⟨_, _, _, _, rfl, d2, List.length_replicate, by rw [List.sum_replicate_nat]; omega⟩ ?_ ?_
      · rintro i σ H3 hi ⟨x4, x5, x6, as, rfl, d3, hl, hs⟩
        have el3 : (upd G D (.lst (nats as))) l = some (.lst xs) := by rw [upd_ne Dl]; exact el
        refine ⟨_, rfl, _, rfl, l, _, rfl, .inl (SqL.of (d3.same _ _ el3)), _, st, _, _, rfl, d3, by omega, by omega, Int.lt_trans (show ((xs.length : Nat) : Int) < 2 ^ 24 by exact_mod_cast hx1) (by decide), fun sp H4 s0 s1 d4 => ?_⟩
        obtain ⟨sn, rfl⟩ := Int.eq_ofNat_of_zero_le s0
        have hsn : sn < as.length := by omega
        obtain ⟨a, ha⟩ : ∃ a, as[sn]? = some a := ⟨_, List.getElem?_eq_getElem hsn⟩
        have eD4 := d4.same D _ upd_same
        refine ⟨_, rfl, _, rfl, D, _, _, .int (a : Int), rfl, rfl, SqL.of eD4, atI_nat (by unfold nats; rw [List.getElem?_map, ha]; rfl), _, 1, rfl, rfl, _, rfl, _, rfl, _, st, _, 9, rfl, d4, by omega, by decide, by decide, fun ap H5 a0 a1 d5 => ?_⟩
        obtain ⟨an, rfl⟩ := Int.eq_ofNat_of_zero_le a0
        refine ⟨_, _, rfl, rfl, _, rfl, _, rfl, D, _, _, sn, rfl, rfl, d5.same D _ upd_same, ix_nat (by unfold nats; rw [List.length_map]; exact hsn), ?_⟩
        have d6 := d5.put (p := D) (o := .lst (nats (as.set sn (a + (1 + an))))) upd_same
        have es : (nats as).set sn (.int ((a : Int) + 1 + (an : Int))) = nats (as.set sn (a + (1 + an))) := by
          unfold nats
          rw [List.map_set]
          congr 2
          push_cast
          omega
        rw [show ((a : Int) + 1 + (an : Int)) = (a : Int) + 1 + (an : Int) from rfl] at *
        refine ⟨_, _, _, as.set sn (a + (1 + an)), rfl, ?_, by rw [List.length_set]; exact hl, by rw [sum_set ha]; omega⟩
        rw [es]
        have e2 : upd (upd G D (.lst (nats as))) D (.lst (nats (as.set sn (a + (1 + an))))) = upd G D (.lst (nats (as.set sn (a + (1 + an))))) := by
          funext c
          by_cases ec : c = D
          · rw [ec, upd_same, upd_same]
          · rw [upd_ne ec, upd_ne ec, upd_ne ec]
        rw [e2] at d6
        exact d6.mono (by omega)
      · rintro σ H3 ⟨x4, x5, x6, as, rfl, d3, hl, hs⟩
        exact ⟨x4, x5, x6, as, rfl, d3.mono (by omega), hl, by omega⟩
    · rintro σ H3 ⟨x4, x5, x6, as, rfl, d3, hl, hs⟩
      exact ⟨_, rfl, k D as _ gD d3 hl hs⟩
end

/-! ### loads of a sharing -/
def WaysL (H : Hp) (l : Addr) (ws : List (List Str)) : Prop := ∃ qs : List Addr, H l = some (.lst (qs.map V.ref)) ∧ Paired (fun q (w : List Str) => H q = some (.tup (w.map V.str))) qs ws
theorem WaysL.on {H H' : Hp} {l : Addr} {ws : List (List Str)} (h : WaysL H l ws) (s : Same H H') : WaysL H' l ws := let ⟨qs, a, b⟩ := h; ⟨qs, s _ _ a, paired_on (fun _ _ e => s _ _ e) b⟩
def DictI (H : Hp) (a : Addr) (es : Tab Int) : Prop := ∃ ks, H a = some (.dK ks) ∧ Paired (EntG fun v (x : Int) => v = .int x) ks es
theorem DictI.on {H H' : Hp} {a : Addr} {es : Tab Int} (d : DictI H a es) (s : Same H H') : DictI H' a es := let ⟨ks, e, p⟩ := d; ⟨ks, s _ _ e, p⟩
def bsum (was : List (List Str × Nat)) (n : Str) : Nat := ((was.filter fun p => decide (n ∈ p.1)).map (·.2)).sum
def borneT (es : List Ent) (was : List (List Str × Nat)) : Tab Int := es.map fun e => (e.1, ((bsum was e.1 : Nat) : Int))
theorem nats_map (as : List Nat) : nats as = (as.map fun a : Nat => (a : Int)).map V.int := by
  unfold nats
  rw [List.map_map]
  rfl
theorem nats_sum : ∀ as : List Nat, (as.map fun a : Nat => (a : Int)).sum = ((as.sum : Nat) : Int)
  | [] => rfl
  | a :: r => by
    show (a : Int) + (r.map fun a : Nat => (a : Int)).sum = ((a + r.sum : Nat) : Int)
    rw [nats_sum r]
    push_cast
    rfl
theorem nms_borne (es : List Ent) (was : List (List Str × Nat)) : nms (borneT es was) = names es := by
  unfold nms borneT names
  rw [List.map_map]
  rfl
section
variable {P : Program} {w : World} {K : PySem.W.Frag} {mg : Str → Option Value} {base : Heap}
def spLoads : Sp := fun vs H Q _ => ∃ (l w a : Addr) (es : List Ent) (ws : List (List Str)) (as : List Nat), vs = [.ref l, .ref w, .ref a] ∧ RowsL H l es ∧ (names es).Nodup ∧ es.length ≤ 10 ∧ WaysL H w ws ∧ H a = some (.lst (nats as)) ∧ as.length = ws.length ∧ ws.length < 2 ^ 24 ∧
  ∀ D H', Same H H' → H D = none → DictI H' D (borneT es (ws.zip as)) → Q (.ref D) H'
theorem ok_loads (T : Txt K mg) : FnOk P w K mg base CX0 1 T.f_loads T.d_loads ["_law_links", "_law_ways_here", "_law_amounts_here"] spLoads := by
  refine T.F_loads.ok sc_loads (fun vs H Q E h => ?_) (fun cdv A outer s H vs Q E hr h => ?_)
  · obtain ⟨l, w', a, es, ws, as, rfl, _⟩ := h
    rfl
  · obtain ⟨l, w', a, es, ws, as, rfl, ⟨rs, el, pl⟩, nd, h10, ⟨qs, ew, pw⟩, ea, hla, hsz, k⟩ := h
    refine ⟨_, (pss_cons (ps_set (i := 3) sc_loads.nd rfl (Or.inl rfl) pe_dnewK)
    (C8.pss_cut (ps_for PassesOwn.never rfl (pi_list (pv 0)) (pg_tup rfl (pgs_cons (pg_name (i := 4) sc_loads.nd rfl (Or.inr rfl)) (pgs_cons (pg_name (i := 5) sc_loads.nd rfl (Or.inl rfl)) (pgs_cons (pg_name (i := 6) sc_loads.nd rfl (Or.inl rfl)) pgs_nil))))
      (pss_one (ps_asg (pe_callB (cr_sum rfl) (by rfl) T.n_sum (by decide +kernel) (pa_cons (pe_lc (own := [("_law_k", 7)]) (g := gName 7) rfl sc_loads.nd (pi_range1 rfl T.n_range (pa_cons (pe_callB call_len_seq (by rfl) T.n_len (by decide +kernel) (pa_cons (pv 1) pa_nil)) pa_nil)) (blkOk_by (N := ["_law_links", "_law_ways_here", "_law_amounts_here", "_law_borne", "_law_name", "_law_tail", "_law_head", "_law_k"]) (sc := defScope s_loads) (by decide +kernel)) (fun _ _ _ _ _ => pg_name (i := 7) sc_loads.nd rfl (Or.inl rfl)) (fun _ _ _ _ _ => pts_one (pt_cmpR (show OpR _ _ (rIn K false) from op_in_seq) (pv 4) (pe_ix (show IxR _ (rIxL K) from ix_list) (pv 1) (pv 7) (fun _ _ => rfl)) (by with_unfolding_all rfl))) (fun _ _ _ _ _ => (pe_ix (show IxR _ (rIxL K) from ix_list) (pv 2) (pv 7) (fun _ _ => rfl)))) pa_nil)) (pg_sub (pv 3) (pv 4) (set_dict (hu_of hr))))))
    (pss_one (ps_ret (pv 3))))), ?_⟩
    have hs24 : (2 : Nat) ^ 24 = sizeLine := by decide
    intro D nD
    have s0 := same_upd (o := .dK []) nD
    have eD0 : (upd H D (.dK [])) D = some (.dK []) := upd_same
    generalize upd H D (.dK []) = H0 at s0 eD0 ⊢
    refine ⟨fun σ H' => ∃ x4 x5 x6 x7, σ = [some (.ref l), some (.ref w'), some (.ref a), some (.ref D), x4, x5, x6, x7] ∧ Same H H' ∧ DictI H' D (borneT es (ws.zip as)), ?_, ?_⟩
    · refine ⟨_, rfl, l, rfl, ⟨_, SqL.of (s0 _ _ el)⟩, ?_⟩
      refine for_list (K := K) (a := l) (xs := rs.map V.ref) (fun i σ H' => ∃ x4 x5 x6 x7, σ = [some (.ref l), some (.ref w'), some (.ref a), some (.ref D), x4, x5, x6, x7] ∧ Same H H' ∧ DictI H' D (borneT (es.take i) (ws.zip as))) ⟨_, _, _, _, rfl, s0, [], eD0, .nil⟩ (fun i σ H' _ ⟨_, _, _, _, _, s, _⟩ => SqL.of (s _ _ el)) ?_ ?_
      · rintro i x σ H1 hi ⟨x4, x5, x6, x7, rfl, s1, ks, eD, pD⟩
        rw [List.getElem?_map] at hi
        cases hr' : rs[i]? with
        | none => rw [hr'] at hi; cases hi
        | some r =>
          rw [hr'] at hi
          obtain rfl := Option.some.inj hi
          obtain ⟨e, he, re⟩ := pair_at pl hr'
          have re : H r = some (.tup [.str e.1, .str e.2.1, .str e.2.2]) := re
          refine ⟨r, _, rfl, SqT.of (s1 _ _ re), rfl, _, _, rfl, _, _, rfl, _, _, rfl, rfl, ?_⟩
          have hql : (qs.map V.ref).length = ws.length := by rw [List.length_map, pw.length]
          refine ⟨_, rfl, w', _, rfl, .inl (SqL.of (s1 _ _ ew)), _, rfl, by omega, by rw [hql]; omega, fun B nB => ?_⟩
          have DB : D ≠ B := ne_of_none eD nB
          have hzl : (ws.zip as).length = ws.length := by rw [List.length_zip]; omega
          refine lc_range (lo := 0) (n := (qs.map V.ref).length) (fun i H' => H' = upd H1 B (.lst (nats ((((ws.zip as).take i).filter fun p => decide (e.1 ∈ p.1)).map (·.2))))) rfl ?_ ?_
          · rintro j H2 hj rfl
            rw [hql] at hj
            have e0 : (0 : Int) + (j : Int) = (j : Int) := Int.zero_add _
            obtain ⟨q, hq⟩ : ∃ q, qs[j]? = some q := ⟨_, List.getElem?_eq_getElem (by rw [pw.length]; exact hj)⟩
            obtain ⟨wy, hwy, eq⟩ := pair_at pw hq
            have up : ∀ {c : Addr} {o : HO}, H c = some o → (upd H1 B (.lst (nats ((((ws.zip as).take j).filter fun p => decide (e.1 ∈ p.1)).map (·.2))))) c = some o := fun {c o} hc => by rw [upd_ne (ne_of_none (s1 _ _ hc) nB)]; exact s1 _ _ hc
            obtain ⟨x, hx⟩ : ∃ x, as[j]? = some x := ⟨_, List.getElem?_eq_getElem (by omega)⟩
            have hzj : (ws.zip as)[j]? = some (wy, x) := by rw [List.getElem?_zip_eq_some]; exact ⟨hwy, hx⟩
            have aW : atI (qs.map V.ref) (0 + (j : Int)) = some (V.ref q) := by rw [e0]; exact atI_nat (by rw [List.getElem?_map, hq]; rfl)
            have aA : atI (nats as) (0 + (j : Int)) = some (V.int (x : Int)) := by rw [e0]; exact atI_nat (by unfold nats; rw [List.getElem?_map, hx]; rfl)
            refine ⟨rfl, _, rfl, _, rfl, _, rfl, w', _, _, .ref q, rfl, rfl, SqL.of (up ew), aW, q, _, rfl, .inr (SqT.of (up eq)), rfl, flat_names wy, _, rfl, ?_⟩
            rw [if_neg Bool.false_ne_true, inV_names, take_more hzj, List.filter_append]
            by_cases hm : e.1 ∈ wy
            · rw [decide_eq_true hm, List.filter_cons_of_pos (by simpa using hm)]
              refine iteT ⟨_, rfl, _, rfl, a, _, _, .int (x : Int), rfl, rfl, SqL.of (up ea), aA, _, upd_same, ?_, ?_⟩
              · unfold nats
                rw [List.length_map, List.length_map]
                have h1 := List.length_filter_le (fun p : List Str × Nat => decide (e.1 ∈ p.1)) ((ws.zip as).take j)
                rw [List.length_take] at h1
                omega
              · funext c
                by_cases ec : c = B
                · rw [ec, upd_same, upd_same]
                  unfold nats
                  rw [List.map_append, List.map_append]
                  rfl
                · rw [upd_ne ec, upd_ne ec, upd_ne ec]
            · rw [decide_eq_false hm, List.filter_cons_of_neg (by simpa using hm)]
              refine iteF ?_
              rw [List.filter_nil, List.append_nil]
          · rintro H2 rfl
            rw [hql, ← hzl, List.take_length]
            have s2 := same_upd (o := .lst (nats (((ws.zip as).filter fun p => decide (e.1 ∈ p.1)).map (·.2)))) nB
            have eB : (upd H1 B (.lst (nats (((ws.zip as).filter fun p => decide (e.1 ∈ p.1)).map (·.2))))) B = _ := upd_same
            have eD2 := s2 _ _ eD
            generalize upd H1 B (.lst (nats (((ws.zip as).filter fun p => decide (e.1 ∈ p.1)).map (·.2)))) = H2 at s2 eB eD2 ⊢
            have en : nats (((ws.zip as).filter fun p => decide (e.1 ∈ p.1)).map (·.2)) = ((((ws.zip as).filter fun p => decide (e.1 ∈ p.1)).map (·.2)).map fun a : Nat => (a : Int)).map V.int := nats_map _
            rw [en] at eB
            refine ⟨B, _, rfl, SqL.of eB, _, rfl, _, rfl, D, _, rfl, DPut.k (k := .inr e.1) eD2 (small1000 ?_), ?_⟩
            · rw [pD.length]
              unfold borneT
              rw [List.length_map, List.length_take]
              omega
            refine ⟨_, _, _, _, rfl, same_mut (s1.trans s2) nD, _, upd_same, ?_⟩
            have nin : e.1 ∉ nms (borneT (es.take i) (ws.zip as)) := fun hm => by
              rw [nms_borne] at hm
              obtain ⟨f, hf, ef⟩ := List.mem_map.mp hm
              obtain ⟨j, hj, ej⟩ := List.getElem_of_mem hf
              rw [List.length_take] at hj
              rw [List.getElem_take] at ej
              have hie := (List.getElem?_eq_some_iff.mp he)
              have := List.pairwise_iff_getElem.mp nd j i (by unfold names; rw [List.length_map]; omega) (by unfold names; rw [List.length_map]; exact hie.1) (by omega)
              unfold names at this
              rw [List.getElem_map, List.getElem_map, ej, hie.2] at this
              exact this ef
            rw [take_more he]
            unfold borneT at *
            rw [List.map_append]
            have := put_ok (n := e.1) (x := ((bsum (ws.zip as) e.1 : Nat) : Int)) (v := .int ((bsum (ws.zip as) e.1 : Nat) : Int)) pD rfl
            unfold put at this
            rw [if_neg nin] at this
            rw [nats_sum]
            exact this
      · rintro σ H1 ⟨x4, x5, x6, x7, rfl, s1, hD⟩
        rw [List.length_map, pl.length, List.take_length] at hD
        exact ⟨x4, x5, x6, x7, rfl, s1, hD⟩
    · rintro σ H1 ⟨x4, x5, x6, x7, rfl, s1, hD⟩
      exact ⟨_, rfl, k D _ s1 nD hD⟩
end

/-! ### loads as ratios -/
def ratT (es : Tab Int) (b : Int) : Tab Rat := es.map fun e => (e.1, vq e.2 b)
theorem nms_rat (es : Tab Int) (b : Int) : nms (ratT es b) = nms es := by
  unfold nms ratT
  rw [List.map_map]
  rfl
theorem NV.dput {RC : Addr} {H : Hp} {D : Addr} {v : V} {xs : List (Key × V)} {o : HO} {x : Rat} {n : Nat} (hD : H D = some (.dK xs)) (r : NV RC H v x n) : NV RC (upd H D o) v x n := by
  obtain ⟨t, b, nm, h4⟩ := r
  refine ⟨t, b, ?_, h4⟩
  rcases nm with e | ⟨p, e, dx, hp⟩
  · exact .inl e
  · exact .inr ⟨p, e, dx, by rw [upd_ne (fun z => by rw [z, hD] at hp; cases hp)]; exact hp⟩
theorem NV.kp {RC A : Addr} {H H' : Hp} {v : V} {u : HO} {x : Rat} {n : Nat} (hD : H A = some u) (hu : ∀ C d fs, u ≠ .ins C d fs) (k : ∀ c o, c ≠ A → H c = some o → H' c = some o) (r : NV RC H v x n) : NV RC H' v x n := by
  obtain ⟨t, b, nm, h4⟩ := r
  refine ⟨t, b, ?_, h4⟩
  rcases nm with e | ⟨p, e, dx, hp⟩
  · exact .inl e
  · exact .inr ⟨p, e, dx, k _ _ (fun z => by rw [z, hD] at hp; exact hu _ _ _ (Option.some.inj hp)) hp⟩
theorem nd_at {α : Type} {es : Tab α} {i : Nat} {e : Str × α} (nd : (nms es).Nodup) (h : es[i]? = some e) : e.1 ∉ nms (es.take i) := fun hm => by
  obtain ⟨f, hf, ef⟩ := List.mem_map.mp hm
  obtain ⟨j, hj, ej⟩ := List.getElem_of_mem hf
  rw [List.length_take] at hj
  rw [List.getElem_take] at ej
  have hie := List.getElem?_eq_some_iff.mp h
  have := List.pairwise_iff_getElem.mp nd j i (by unfold nms; rw [List.length_map]; omega) (by unfold nms; rw [List.length_map]; exact hie.1) (by omega)
  unfold nms at this
  rw [List.getElem_map, List.getElem_map, ej, hie.2] at this
  exact this ef
section
variable {P : Program} {w : World} {K : PySem.W.Frag} {mg : Str → Option Value} {base : Heap}
def spRatios (RC : Addr) : Sp := fun vs H Q _ => ∃ (d : Addr) (b : Int) (es : Tab Int), vs = [.ref d, .int b] ∧ DictI H d es ∧ 0 < b ∧ b.natAbs < 2 ^ 6 ∧ (∀ e ∈ es, e.2.natAbs < 2 ^ 6) ∧ (nms es).Nodup ∧ es.length ≤ 20 ∧
  ∀ D H', Same H H' → H D = none → DictN RC H' D (ratT es b) 6 → Q (.ref D) H'
theorem ok_ratios (T : Txt K mg) : FnOk P w K mg base CX0 3 T.f_ratios T.d_ratios ["_law_borne", "_law_bottom"] (spRatios T.f_Ratio) := by
  have G_Ratio_init : FnOk P w K mg base CX0 1 T.f_Ratio_init T.d_Ratio_init ["self", "top", "bottom"] (spInit T.f_Ratio) := ok_init T
  refine T.F_ratios.ok sc_ratios (fun vs H Q E h => ?_) (fun cdv A outer s H vs Q E hr h => ?_)
  · obtain ⟨d, b, es, rfl, _⟩ := h
    rfl
  · obtain ⟨d, b, es, rfl, ⟨ks, ed, pd⟩, hb0, hb6, hv, nd, h20, k⟩ := h
    refine ⟨_, (pss_cons (ps_set (i := 2) sc_ratios.nd rfl (Or.inl rfl) pe_dnewK)
    (C8.pss_cut (ps_lock (ps_for PassesOwn.never rfl (pi_keys (pv 0)) (pg_name (i := 3) sc_ratios.nd rfl (Or.inl rfl))
      (pss_one (ps_asg (pe_make T.mk_Ratio G_Ratio_init (hr.mono (by decide)) rfl T.m_Ratio T.b2_Ratio_init T.v2_Ratio_init pass0 (pa_cons (pe_dget (hu_of hr) (pv 0) (pv 3) (fun _ _ => rfl)) (pa_cons (pv 1) pa_nil))) (pg_sub (pv 2) (pv 3) (set_dict (hu_of hr)))))))
    (pss_one (ps_ret (pv 2))))), ?_⟩
    intro D nD
    have s0 := same_upd (o := .dK []) nD
    have eD0 : (upd H D (.dK [])) D = some (.dK []) := upd_same
    have Dd : D ≠ d := fun z => by rw [z, ed] at nD; cases nD
    generalize upd H D (.dK []) = H0 at s0 eD0 ⊢
    refine ⟨fun σ H' => ∃ x3, σ = [some (.ref d), some (.int b), some (.ref D), x3] ∧ Same H H' ∧ DictN T.f_Ratio H' D (ratT es b) 6, ?_, ?_⟩
    · refine ⟨d, _, s0 _ _ ed, trivial, fun od => ?_⟩
      refine ⟨_, rfl, d, od, rfl, .inl ⟨ks, upd_same, ?_⟩⟩
      refine for_keys (kvs := ks) (fun i σ H' => ∃ x3, σ = [some (.ref d), some (.int b), some (.ref D), x3] ∧ H' d = some (.frz od (.dK ks)) ∧ (∀ c o, c ≠ d → H c = some o → H' c = some o) ∧ DictN T.f_Ratio H' D (ratT (es.take i) b) 6) ⟨_, rfl, upd_same, fun c o cd hc => by rw [upd_ne cd]; exact s0 _ _ hc, [], by rw [upd_ne Dd]; exact eD0, .nil⟩ (fun i σ H' _ ⟨_, _, h, _⟩ => h) ?_ ?_
      · rintro i kk v σ H' hi ⟨x3, rfl, h1, h2, hD⟩
        obtain ⟨e, he, hk, hx⟩ := pair_at pd hi
        have hk : kk = .inr e.1 := hk
        have hx : v = .int e.2 := hx
        subst hk hx
        have hvA : valV ks (.inr e.1 : Key) = some (.int e.2) := valV_mem ks (keys_nodup pd nd) (List.mem_of_getElem? hi)
        refine ⟨_, rfl, _, rfl, d, .int e.2, rfl, .inl ⟨ks, .inr e.1, .inr ⟨od, h1⟩, rfl, hvA.symm⟩, _, rfl, ?_⟩
        intro q dq nq ndq neq
        have hbne : b ≠ 0 := by omega
        refine ⟨q, dq, e.2, b, rfl, upd_same, hbne, Nat.lt_trans hb6 (Nat.pow_lt_pow_right (by decide) (by decide)), fun K1 rk st1 => ⟨rfl, ?_⟩⟩
        have s1 := Same.made nq ndq st1
        have r1 : RV T.f_Ratio K1 q (vq e.2 b) 6 := ⟨_, _, rk, Low.of hbne, vq_low hbne, Sz.low ⟨hv e (List.mem_of_getElem? he), hb6⟩ hbne⟩
        obtain ⟨ls, eD, pD⟩ := hD.on s1
        have hl : ls.length ≤ 20 := by
          rw [pD.length]
          unfold ratT
          rw [List.length_map, List.length_take]
          omega
        refine ⟨_, rfl, _, rfl, D, _, rfl, DPut.k (k := .inr e.1) eD (small1000 (by omega)), ?_⟩
        have nin : e.1 ∉ nms (ratT (es.take i) b) := by rw [nms_rat]; exact nd_at nd he
        refine ⟨_, rfl, by rw [upd_ne (Ne.symm Dd)]; exact s1 _ _ h1, fun c o cd hc => ?_, _, upd_same, ?_⟩
        · rw [upd_ne (ne_of_none hc nD)]
          exact s1 _ _ (h2 c o cd hc)
        · rw [take_more he]
          unfold ratT at *
          rw [List.map_append]
          have := put_ok (n := e.1) (x := vq e.2 b) (v := .ref q) (R := fun v x => NV T.f_Ratio (upd K1 D (.dK (putK ls (.inr e.1) (.ref q)))) v x 6) (paired_on (fun _ _ ⟨g1, g2⟩ => ⟨g1, g2.dput eD⟩) pD) (r1.num.dput eD)
          unfold put at this
          rw [if_neg nin] at this
          exact this
      · rintro σ H' ⟨x3, rfl, h1, h2, hD⟩
        rw [show es.take ks.length = es from by rw [pd.length]; exact List.take_length] at hD
        refine ⟨h1, x3, rfl, fun c o hc => ?_, ?_⟩
        · by_cases cd : c = d
          · rw [cd, upd_same, ← ed, ← cd]; exact hc
          · rw [upd_ne cd]; exact h2 c o cd hc
        · obtain ⟨ls, eD, pD⟩ := hD
          exact ⟨ls, by rw [upd_ne Dd]; exact eD, paired_on (fun _ _ ⟨g1, g2⟩ => ⟨g1, g2.kp h1 (fun _ _ _ z => nomatch z) fun c o cd hc => by rw [upd_ne cd]; exact hc⟩) pD⟩
    · rintro σ H' ⟨x3, rfl, s1, hD⟩
      exact ⟨_, rfl, k D _ s1 nD hD⟩
end

/-! ### ways, found turn by turn -/
abbrev Row := List Str × Str
def oneR (es : List Ent) (r : Row) : List Row := (es.filter fun e => decide (e.2.1 = r.2)).map fun e => (r.1 ++ [e.1], e.2.2)
def stepR (es : List Ent) (rows : List Row) : List Row := rows.flatMap (oneR es)
def bfs (es : List Ent) (s t : Str) : Nat → List Row × List (List Str)
  | 0 => ([([], s)], [])
  | k + 1 => ((stepR es (bfs es s t k).1).filter (fun r => !decide (r.2 = t)), (bfs es s t k).2 ++ ((stepR es (bfs es s t k).1).filter (fun r => decide (r.2 = t))).map (·.1))
theorem bfs_len {es : List Ent} {s t : Str} : ∀ k, ∀ r ∈ (bfs es s t k).1, r.1.length = k
  | 0, r, h => by rw [List.mem_singleton.mp h]; rfl
  | k + 1, r, h => by
    have h := (List.mem_filter.mp h).1
    obtain ⟨r', hr', h⟩ := List.mem_flatMap.mp h
    obtain ⟨e, _, rfl⟩ := List.mem_map.mp h
    show (r'.1 ++ [e.1]).length = k + 1
    rw [List.length_append, bfs_len k r' hr']
    rfl
def RowW (H : Hp) (q : Addr) (r : Row) : Prop := ∃ u, H q = some (.tup [.ref u, .str r.2]) ∧ H u = some (.tup (r.1.map V.str))
theorem RowW.on {H H' : Hp} {q : Addr} {r : Row} (h : RowW H q r) (s : Same H H') : RowW H' q r := let ⟨u, a, b⟩ := h; ⟨u, s _ _ a, s _ _ b⟩
theorem RowW.lput {H : Hp} {M q : Addr} {r : Row} {xs : List V} {o : HO} (hM : H M = some (.lst xs)) (h : RowW H q r) : RowW (upd H M o) q r := by
  obtain ⟨u, a, b⟩ := h
  exact ⟨u, by rw [upd_ne (fun z => by rw [z, hM] at a; cases a)]; exact a, by rw [upd_ne (fun z => by rw [z, hM] at b; cases b)]; exact b⟩
def RowsW (H : Hp) (l : Addr) (rows : List Row) : Prop := ∃ qs : List Addr, H l = some (.lst (qs.map V.ref)) ∧ Paired (RowW H) qs rows
theorem RowsW.on {H H' : Hp} {l : Addr} {rows : List Row} (h : RowsW H l rows) (s : Same H H') : RowsW H' l rows := let ⟨qs, a, b⟩ := h; ⟨qs, s _ _ a, paired_on (fun _ _ e => e.on s) b⟩
theorem ways_b {H : Hp} : ∀ {qs : List Addr} {ws : List (List Str)}, Paired (fun q (w : List Str) => H q = some (.tup (w.map V.str))) qs ws → (∀ w ∈ ws, w ≠ []) → ∃ bs : List WayB, bs.map (·.1) = qs ∧ bs.map (fun b => b.2.1 :: b.2.2) = ws ∧ ∀ b ∈ bs, H b.1 = some (.tup ((b.2.1 :: b.2.2).map V.str))
  | _, _, .nil, _ => ⟨[], rfl, rfl, fun b h => by cases h⟩
  | q :: qs, w :: ws, .cons a r, h => by
    obtain ⟨bs, e1, e2, h3⟩ := ways_b r fun x hx => h x (List.mem_cons_of_mem _ hx)
    cases w with
    | nil => exact absurd rfl (h [] List.mem_cons_self)
    | cons z zs =>
      refine ⟨(q, z, zs) :: bs, by rw [List.map_cons, e1], by rw [List.map_cons, e2], fun b hb => ?_⟩
      rcases List.mem_cons.mp hb with e | hb
      · rw [e]; exact a
      · exact h3 b hb
theorem ways_of {H : Hp} : ∀ {ys : List WayB}, (∀ b ∈ ys, H b.1 = some (.tup ((b.2.1 :: b.2.2).map V.str))) → Paired (fun q (w : List Str) => H q = some (.tup (w.map V.str))) (ys.map (·.1)) (ys.map fun b => b.2.1 :: b.2.2)
  | [], _ => .nil
  | b :: ys, h => .cons (h b List.mem_cons_self) (ways_of fun c hc => h c (List.mem_cons_of_mem _ hc))
section
variable {P : Program} {w : World} {K : PySem.W.Frag} {mg : Str → Option Value} {base : Heap}
def spWays : Sp := fun vs H Q _ => ∃ (l : Addr) (es : List Ent) (s t : Str), vs = [.ref l, .str s, .str t] ∧ RowsL H l es ∧ (∀ k < 8, (stepR es (bfs es s t k).1).length < 2 ^ 24 ∧ (bfs es s t (k + 1)).2.length < 2 ^ 24) ∧ (∀ w ∈ (bfs es s t 8).2, w ≠ []) ∧
  ∀ W (ws : List (List Str)) H', Same H H' → H W = none → WaysL H' W ws → ws.Perm (bfs es s t 8).2 → Q (.ref W) H'
theorem ok_ways (T : Txt K mg) : FnOk P w K mg base CX0 1 T.f_ways T.d_ways ["_law_links", "_law_start_here", "_law_end"] spWays := by
  have z2 : 2 ≤ sizeLine := by decide
  have z1 : 1 ≤ sizeLine := by decide
  have hs24 : (2 : Nat) ^ 24 = sizeLine := by decide
  refine T.F_ways.ok sc_ways (fun vs H Q E h => ?_) (fun cdv A outer s0 H vs Q E hr h => ?_)
  · obtain ⟨l, es, s, t, rfl, _⟩ := h
    rfl
  · obtain ⟨l, es, s, t, rfl, hL, hb, hne, k⟩ := h
    refine ⟨_, (pss_cons (ps_set (i := 3) sc_ways.nd rfl (Or.inl rfl) (pe_lst (pa_cons (pe_tup (pa_cons (pe_tup pa_nil) (pa_cons (pv 1) pa_nil))) pa_nil)))
    (pss_cons (ps_set (i := 4) sc_ways.nd rfl (Or.inl rfl) (pe_lst pa_nil))
    (C8.pss_cut (ps_for PassesOwn.never rfl (pi_range1 rfl T.n_range (pa_cons pe_int pa_nil)) (pg_name (i := 5) sc_ways.nd rfl (Or.inl rfl))
      (pss_cons (ps_set (i := 6) sc_ways.nd rfl (Or.inl rfl) (pe_lst pa_nil))
    (C8.pss_cut (ps_for PassesOwn.never rfl (pi_list (pv 3)) (pg_tup rfl (pgs_cons (pg_name (i := 7) sc_ways.nd rfl (Or.inl rfl)) (pgs_cons (pg_name (i := 8) sc_ways.nd rfl (Or.inl rfl)) pgs_nil)))
      (pss_one (ps_for PassesOwn.never rfl (pi_list (pv 0)) (pg_tup rfl (pgs_cons (pg_name (i := 9) sc_ways.nd rfl (Or.inl rfl)) (pgs_cons (pg_name (i := 10) sc_ways.nd rfl (Or.inl rfl)) (pgs_cons (pg_name (i := 11) sc_ways.nd rfl (Or.inl rfl)) pgs_nil))))
      (pss_one (ps_if (pt_cmpR op_eq (pv 10) (pv 8) (nomark _))
      (pss_one (ps_expr (pe_bm PySem.F.plainAttrs_list PySem.F.slot_list_append PySem.F.type_list_append mt_append (pv 6) (pa_cons (pe_tup (pa_cons (pe_op op_catA (pv 7) (pe_tup (pa_cons (pv 9) pa_nil))) (pa_cons (pv 11) pa_nil))) pa_nil))))
      pss_nil)))))
    (pss_cons (ps_set (i := 4) sc_ways.nd rfl (Or.inl rfl) (pe_op op_cat (pv 4) (pe_lc (own := [("_law_row", 12)]) (g := gName 12) rfl sc_ways.nd (pi_list (pv 6)) (blkOk_by (N := ["_law_links", "_law_start_here", "_law_end", "_law_rows", "_law_ways_here", "_law_turn", "_law_more", "_law_way", "_law_place", "_law_name", "_law_tail", "_law_head", "_law_row"]) (sc := defScope s_ways) (by decide +kernel)) (fun _ _ _ _ _ => pg_name (i := 12) sc_ways.nd rfl (Or.inl rfl)) (fun _ _ _ _ _ => pts_one (pt_cmpR op_eq (pe_ix (show IxR _ (rIxT K) from ix_tup) (pv 12) pe_int (fun _ _ => rfl)) (pv 2) (nomark _))) (fun _ _ _ _ _ => (pe_ix (show IxR _ (rIxT K) from ix_tup) (pv 12) pe_int (fun _ _ => rfl))))))
    (pss_one (ps_setLc (i := 3) (own := [("_law_row", 12)]) (g := gName 12) rfl sc_ways.nd rfl rfl (sw_true rfl rfl rfl (by decide +kernel)) (pi_list (pv 6)) (blkOk_by (N := ["_law_links", "_law_start_here", "_law_end", "_law_rows", "_law_ways_here", "_law_turn", "_law_more", "_law_way", "_law_place", "_law_name", "_law_tail", "_law_head", "_law_row"]) (sc := defScope s_ways) (by decide +kernel)) (fun _ _ _ _ _ => pg_name (i := 12) sc_ways.nd rfl (Or.inl rfl)) (fun _ _ _ _ _ => pts_one (pt_cmpR op_ne (pe_ix (show IxR _ (rIxT K) from ix_tup) (pv 12) pe_int (fun _ _ => rfl)) (pv 2) (nomark _))) (fun _ _ _ _ _ => (pv 12))))))))
    (pss_one (ps_ret (pe_callB (cr_sortWays hr.units) (by rfl) T.n_sorted (by decide +kernel) (pa_cons (pv 4) pa_nil))))))), ?_⟩
    obtain ⟨rs, el, pl⟩ := id hL
    refine ⟨Nat.zero_le _, fun u0 nu0 => ⟨_, rfl, z2, fun q0 nq0 => ⟨z1, fun R0 nR0 => ?_⟩⟩⟩
    have sa := same_upd (o := .tup []) nu0
    have sb := same_upd (o := .tup [V.ref u0, .str s]) nq0
    have sc := same_upd (o := .lst [V.ref q0]) nR0
    have hR0 : RowsW (upd (upd (upd H u0 (.tup [])) q0 (.tup [V.ref u0, .str s])) R0 (.lst [V.ref q0])) R0 [([], s)] := ⟨[q0], upd_same, .cons ⟨u0, sc _ _ upd_same, sc _ _ (sb _ _ upd_same)⟩ .nil⟩
    have s03 := (sa.trans sb).trans sc
    generalize upd (upd (upd H u0 (.tup [])) q0 (.tup [V.ref u0, .str s])) R0 (.lst [V.ref q0]) = H3 at s03 hR0 ⊢
    refine ⟨Nat.zero_le _, fun W0 nW0 => ?_⟩
    have s4 := same_upd (o := .lst []) nW0
    have hR0 := hR0.on s4
    have hW0 : WaysL (upd H3 W0 (.lst [])) W0 [] := ⟨[], upd_same, .nil⟩
    have s04 := s03.trans s4
    generalize upd H3 W0 (.lst []) = H4 at s04 hR0 hW0 ⊢
    clear sa sb sc nu0 nq0 nR0 nW0 s03 s4
    refine ⟨fun σ H' => ∃ (R W : Addr) (x5 x6 x7 x8 x9 x10 x11 x12 : Option V), σ = [some (.ref l), some (.str s), some (.str t), some (.ref R), some (.ref W), x5, x6, x7, x8, x9, x10, x11, x12] ∧ Same H H' ∧ WaysL H' W (bfs es s t 8).2, ?_, ?_⟩
    · refine ⟨8, rfl, by decide, by decide, ?_⟩
      refine for_range (lo := 0) (n := 8) (fun i σ H' => ∃ (R W : Addr) (x5 x6 x7 x8 x9 x10 x11 x12 : Option V), σ = [some (.ref l), some (.str s), some (.str t), some (.ref R), some (.ref W), x5, x6, x7, x8, x9, x10, x11, x12] ∧ Same H H' ∧ RowsW H' R (bfs es s t i).1 ∧ WaysL H' W (bfs es s t i).2) ⟨R0, W0, _, _, _, _, _, _, _, _, rfl, s04, hR0, hW0⟩ ?_ ?_
      · rintro i σ H5 hi ⟨R, W, x5, x6, x7, x8, x9, x10, x11, x12, rfl, s5, hR, hW⟩
        obtain ⟨hb1, hb2⟩ := hb i hi
        refine ⟨Nat.zero_le _, fun M nM => ?_⟩
        have s6 := same_upd (o := .lst []) nM
        have hM6 : RowsW (upd H5 M (.lst [])) M (stepR es ((bfs es s t i).1.take 0)) := ⟨[], upd_same, .nil⟩
        obtain ⟨qs, eR, pR⟩ := id hR
        refine ⟨fun σ H' => ∃ (x7 x8 x9 x10 x11 x12 : Option V), σ = [some (.ref l), some (.str s), some (.str t), some (.ref R), some (.ref W), some (.int (0 + (i : Int))), some (.ref M), x7, x8, x9, x10, x11, x12] ∧ Same H5 H' ∧ RowsW H' M (stepR es (bfs es s t i).1), ?_, ?_⟩
        · refine ⟨_, rfl, R, rfl, ⟨_, SqL.of (s6 _ _ eR)⟩, ?_⟩
          refine for_list (K := K) (a := R) (xs := qs.map V.ref) (fun j σ H' => ∃ (x7 x8 x9 x10 x11 x12 : Option V), σ = [some (.ref l), some (.str s), some (.str t), some (.ref R), some (.ref W), some (.int (0 + (i : Int))), some (.ref M), x7, x8, x9, x10, x11, x12] ∧ Same H5 H' ∧ RowsW H' M (stepR es ((bfs es s t i).1.take j))) ⟨_, _, _, _, _, _, rfl, s6, hM6⟩ (fun j σ H' _ ⟨_, _, _, _, _, _, _, s, _⟩ => SqL.of (s _ _ eR)) ?_ ?_
          · rintro j x σ H7 hj ⟨x7, x8, x9, x10, x11, x12, rfl, s7, hM⟩
            rw [List.getElem?_map] at hj
            cases hq : qs[j]? with
            | none => rw [hq] at hj; cases hj
            | some q =>
              rw [hq] at hj
              obtain rfl := Option.some.inj hj
              obtain ⟨r, hr', u, eq, eu⟩ := pair_at pR hq
              have tkr := take_more hr'
              have ejr : stepR es ((bfs es s t i).1.take (j + 1)) = stepR es ((bfs es s t i).1.take j) ++ oneR es r := by
                unfold stepR
                rw [tkr, List.flatMap_append]
                congr 1
                rw [List.flatMap_cons, List.flatMap_nil, List.append_nil]
              have hle : (stepR es ((bfs es s t i).1.take (j + 1))).length ≤ (stepR es (bfs es s t i).1).length := by
                have e1 := List.take_append_drop (j + 1) (bfs es s t i).1
                have e2 : stepR es (bfs es s t i).1 = stepR es ((bfs es s t i).1.take (j + 1)) ++ stepR es ((bfs es s t i).1.drop (j + 1)) := by
                  unfold stepR
                  rw [← List.flatMap_append, e1]
                rw [e2, List.length_append]
                omega
              rw [ejr, List.length_append] at hle
              refine ⟨q, _, rfl, SqT.of (s7 _ _ eq), rfl, _, _, rfl, _, _, rfl, rfl, ?_⟩
              refine ⟨_, rfl, l, rfl, ⟨_, SqL.of ((s5.trans s7) _ _ el)⟩, ?_⟩
              refine for_list (K := K) (a := l) (xs := rs.map V.ref) (fun m σ H' => ∃ (x9 x10 x11 x12 : Option V), σ = [some (.ref l), some (.str s), some (.str t), some (.ref R), some (.ref W), some (.int (0 + (i : Int))), some (.ref M), some (.ref u), some (.str r.2), x9, x10, x11, x12] ∧ Same H5 H' ∧ RowsW H' M (stepR es ((bfs es s t i).1.take j) ++ oneR (es.take m) r)) ⟨_, _, _, _, rfl, s7, by rw [show oneR (es.take 0) r = [] from rfl, List.append_nil]; exact hM⟩ (fun m σ H' _ ⟨_, _, _, _, _, s, _⟩ => SqL.of ((s5.trans s) _ _ el)) ?_ ?_
              · rintro m x σ H8 hm ⟨x9, x10, x11, x12, rfl, s8, hM8⟩
                rw [List.getElem?_map] at hm
                cases hrr : rs[m]? with
                | none => rw [hrr] at hm; cases hm
                | some rq =>
                  rw [hrr] at hm
                  obtain rfl := Option.some.inj hm
                  obtain ⟨e, he, re⟩ := pair_at pl hrr
                  have re : H rq = some (.tup [.str e.1, .str e.2.1, .str e.2.2]) := re
                  refine ⟨rq, _, rfl, SqT.of ((s5.trans s8) _ _ re), rfl, _, _, rfl, _, _, rfl, _, _, rfl, rfl, ?_⟩
                  have tke := take_more he
                  refine ⟨_, rfl, _, rfl, rfl, _, rfl, ite2 (fun hd => ?_) fun hd => ?_⟩
                  · have hd : e.2.1 = r.2 := V.str.inj (of_decide_eq_true hd)
                    have eone : oneR (es.take (m + 1)) r = oneR (es.take m) r ++ [(r.1 ++ [e.1], e.2.2)] := by
                      unfold oneR
                      rw [tke, List.filter_append, List.map_append, List.filter_cons_of_pos (by simpa using hd)]
                      rfl
                    have hl1 : (oneR (es.take (m + 1)) r).length ≤ (oneR es r).length := by
                      unfold oneR
                      rw [List.length_map, List.length_map]
                      exact ((List.take_sublist (m + 1) es).filter _).length_le
                    rw [eone, List.length_append] at hl1
                    obtain ⟨ms, eM, pM⟩ := hM8
                    refine ⟨_, rfl, .inl ⟨rfl, _, SqL.of eM⟩, ?_⟩
                    have hrl : r.1.length = i := bfs_len i r (List.mem_of_getElem? hr')
                    have eu8 := s8 _ _ eu
                    refine ⟨_, rfl, _, rfl, z1, fun t1 nt1 => ?_⟩
                    have st1 := same_upd (o := .tup [V.str e.1]) nt1
                    refine ⟨u, t1, _, _, rfl, rfl, SqT.of (st1 _ _ eu8), SqT.of upd_same, by rw [List.length_map, hrl]; show i + 1 ≤ sizeLine; have : (8 : Nat) ≤ sizeLine := (by decide); omega, fun hx => ?_, fun _ hy => (by cases hy), fun hx hy c nc => ?_⟩
                    · have hcc : (upd H8 t1 (.tup [V.str e.1])) t1 = some (.tup ((r.1 ++ [e.1]).map V.str)) := by
                        rw [upd_same, List.map_append, hx]
                        rfl
                      refine ⟨_, rfl, z2, fun q2 nq2 => ?_⟩
                      have s9 := st1.trans (same_upd (o := .tup [V.ref t1, .str e.2.2]) nq2)
                      have eM9 := s9 _ _ eM
                      have row9 : RowW (upd (upd H8 t1 (.tup [V.str e.1])) q2 (.tup [V.ref t1, .str e.2.2])) q2 (r.1 ++ [e.1], e.2.2) := ⟨t1, upd_same, same_upd nq2 _ _ hcc⟩
                      refine ⟨M, _, _, rfl, rfl, eM9, by rw [List.length_map, pM.length, List.length_append]; have : (oneR (es.take m) r).length + 1 ≤ (oneR es r).length := hl1; omega, _, _, _, _, rfl, same_mut (s8.trans s9) nM, ms ++ [q2], by rw [upd_same, List.map_append]; rfl, ?_⟩
                      rw [eone, ← List.append_assoc]
                      exact paired_snoc (row9.lput eM9) (paired_on (fun _ _ g => (g.on s9).lput eM9) pM)
                    · have st2 := st1.trans (same_upd (o := .tup (r.1.map V.str ++ [V.str e.1])) nc)
                      have hcc : (upd (upd H8 t1 (.tup [V.str e.1])) c (.tup (r.1.map V.str ++ [V.str e.1]))) c = some (.tup ((r.1 ++ [e.1]).map V.str)) := by
                        rw [upd_same, List.map_append]
                        rfl
                      refine ⟨_, rfl, z2, fun q2 nq2 => ?_⟩
                      have s9 := st2.trans (same_upd (o := .tup [V.ref c, .str e.2.2]) nq2)
                      have eM9 := s9 _ _ eM
                      have row9 : RowW (upd (upd (upd H8 t1 (.tup [V.str e.1])) c (.tup (r.1.map V.str ++ [V.str e.1]))) q2 (.tup [V.ref c, .str e.2.2])) q2 (r.1 ++ [e.1], e.2.2) := ⟨c, upd_same, same_upd nq2 _ _ hcc⟩
                      refine ⟨M, _, _, rfl, rfl, eM9, by rw [List.length_map, pM.length, List.length_append]; have : (oneR (es.take m) r).length + 1 ≤ (oneR es r).length := hl1; omega, _, _, _, _, rfl, same_mut (s8.trans s9) nM, ms ++ [q2], by rw [upd_same, List.map_append]; rfl, ?_⟩
                      rw [eone, ← List.append_assoc]
                      exact paired_snoc (row9.lput eM9) (paired_on (fun _ _ g => (g.on s9).lput eM9) pM)
                  · have hd : ¬ e.2.1 = r.2 := fun z => hd (decide_eq_true (by rw [z]))
                    have eone : oneR (es.take (m + 1)) r = oneR (es.take m) r := by
                      unfold oneR
                      rw [tke, List.filter_append, List.filter_cons_of_neg (by simpa using hd), List.filter_nil, List.append_nil]
                    exact ⟨_, _, _, _, rfl, s8, by rw [eone]; exact hM8⟩
              · rintro σ H8 ⟨x9, x10, x11, x12, rfl, s8, hM8⟩
                rw [List.length_map, pl.length, List.take_length] at hM8
                exact ⟨_, _, _, _, _, _, rfl, s8, by rw [ejr]; exact hM8⟩
          · rintro σ H7 ⟨x7, x8, x9, x10, x11, x12, rfl, s7, hM⟩
            rw [List.length_map, pR.length, List.take_length] at hM
            exact ⟨_, _, _, _, _, _, rfl, s7, hM⟩
        · rintro σ H7 ⟨x7, x8, x9, x10, x11, x12, rfl, s7, hM⟩
          obtain ⟨ms, eM, pM⟩ := id hM
          obtain ⟨ws, eW, pW⟩ := hW.on s7
          have hml : ms.length < 2 ^ 24 := by rw [pM.length]; exact hb1
          refine ⟨_, rfl, _, rfl, M, rfl, ⟨_, SqL.of eM⟩, fun D nD => ?_⟩
          have MD : M ≠ D := ne_of_none eM nD
          have sD := same_upd (o := .lst []) nD
          refine lc_list (K := K) (a := M) (xs := ms.map V.ref) (fun j H' => ∃ us : List Addr, H' = upd H7 D (.lst (us.map V.ref)) ∧ Paired (fun q (w : List Str) => H7 q = some (.tup (w.map V.str))) us ((((stepR es (bfs es s t i).1).take j).filter fun r => decide (r.2 = t)).map (·.1))) ⟨[], rfl, .nil⟩ (fun j H' _ ⟨_, e, _⟩ => by rw [e]; exact SqL.of (by rw [upd_ne MD]; exact eM)) ?_ ?_
          · rintro j x H8 hj ⟨us, rfl, pu⟩
            rw [List.getElem?_map] at hj
            cases hq : ms[j]? with
            | none => rw [hq] at hj; cases hj
            | some q =>
              rw [hq] at hj
              obtain rfl := Option.some.inj hj
              obtain ⟨r, hr', u, eq, eu⟩ := pair_at pM hq
              have eq8 : (upd H7 D (.lst (us.map V.ref))) q = some (.tup [.ref u, .str r.2]) := by rw [upd_ne (ne_of_none eq nD)]; exact eq
              have hjl := (List.getElem?_eq_some_iff.mp hr').1
              refine ⟨rfl, _, rfl, q, _, 1, .str r.2, rfl, rfl, SqT.of eq8, at1, _, rfl, rfl, _, rfl, ?_⟩
              rw [take_more hr', List.filter_append]
              refine ite2 (fun hd => ?_) fun hd => ?_
              · have hd : r.2 = t := V.str.inj (of_decide_eq_true hd)
                refine ⟨_, rfl, q, _, 0, .ref u, rfl, rfl, SqT.of eq8, at0, _, upd_same, ?_, us ++ [u], ?_, ?_⟩
                · rw [List.length_map, pu.length, List.length_map]
                  have h1 := List.length_filter_le (fun r : Row => decide (r.2 = t)) ((stepR es (bfs es s t i).1).take j)
                  rw [List.length_take] at h1
                  omega
                · funext c
                  by_cases ec : c = D
                  · rw [ec, upd_same, upd_same, List.map_append]; rfl
                  · rw [upd_ne ec, upd_ne ec, upd_ne ec]
                · rw [List.filter_cons_of_pos (by simpa using hd), List.map_append]
                  exact paired_snoc (F := fun q (w : List Str) => H7 q = some (.tup (w.map V.str))) eu pu
              · have hd : ¬ r.2 = t := fun z => hd (decide_eq_true (by rw [z]))
                rw [List.filter_cons_of_neg (by simpa using hd), List.filter_nil, List.append_nil]
                exact ⟨us, rfl, pu⟩
          rintro H8 ⟨us, rfl, pu⟩
          rw [List.length_map, pM.length, List.take_length] at pu
          have s8 := same_upd (o := .lst (us.map V.ref)) nD
          have eM8 := s8 _ _ eM
          have eW8 := s8 _ _ eW
          refine ⟨W, D, _, _, rfl, rfl, eW8, upd_same, ?_, fun W2 nW2 => ?_⟩
          · rw [List.length_map, List.length_map, pW.length, pu.length]
            have : (bfs es s t (i + 1)).2.length = (bfs es s t i).2.length + (((stepR es (bfs es s t i).1).filter fun r => decide (r.2 = t)).map (·.1)).length := by
              rw [← List.length_append]
              rfl
            omega
          have s9 := s8.trans (same_upd (o := .lst (ws.map V.ref ++ us.map V.ref)) nW2)
          have hW9 : WaysL (upd (upd H7 D (.lst (us.map V.ref))) W2 (.lst (ws.map V.ref ++ us.map V.ref))) W2 (bfs es s t (i + 1)).2 := by
            refine ⟨ws ++ us, by rw [upd_same, List.map_append], ?_⟩
            have pa : ∀ {F : Addr → List Str → Prop} {xs ys : List Addr} {as bs : List (List Str)}, Paired F xs as → Paired F ys bs → Paired F (xs ++ ys) (as ++ bs) := fun {F xs ys as bs} p q => by
              induction p with
              | nil => exact q
              | cons a _ ih => exact .cons a ih
            exact pa (paired_on (fun _ _ g => s9 _ _ g) pW) (paired_on (fun _ _ g => s9 _ _ g) pu)
          have eM9 := s9 _ _ eM
          have pM9 : Paired (RowW (upd (upd H7 D (.lst (us.map V.ref))) W2 (.lst (ws.map V.ref ++ us.map V.ref)))) ms (stepR es (bfs es s t i).1) := paired_on (fun _ _ g => g.on s9) pM
          generalize upd (upd H7 D (.lst (us.map V.ref))) W2 (.lst (ws.map V.ref ++ us.map V.ref)) = H9 at s9 hW9 eM9 pM9 ⊢
          clear pu eM8 eW8 s8 sD
          refine ⟨_, rfl, M, rfl, ⟨_, SqL.of eM9⟩, fun D2 nD2 => ?_⟩
          have MD2 : M ≠ D2 := ne_of_none eM9 nD2
          refine lc_list (K := K) (a := M) (xs := ms.map V.ref) (fun j H' => ∃ us : List Addr, H' = upd H9 D2 (.lst (us.map V.ref)) ∧ Paired (RowW H9) us (((stepR es (bfs es s t i).1).take j).filter fun r => !decide (r.2 = t))) ⟨[], rfl, .nil⟩ (fun j H' _ ⟨_, e, _⟩ => by rw [e]; exact SqL.of (by rw [upd_ne MD2]; exact eM9)) ?_ ?_
          · rintro j x H8 hj ⟨us, rfl, pu⟩
            rw [List.getElem?_map] at hj
            cases hq : ms[j]? with
            | none => rw [hq] at hj; cases hj
            | some q =>
              rw [hq] at hj
              obtain rfl := Option.some.inj hj
              obtain ⟨r, hr', u, eq, eu⟩ := pair_at pM9 hq
              have eq8 : (upd H9 D2 (.lst (us.map V.ref))) q = some (.tup [.ref u, .str r.2]) := by rw [upd_ne (ne_of_none eq nD2)]; exact eq
              have hjl := (List.getElem?_eq_some_iff.mp hr').1
              refine ⟨rfl, _, rfl, q, _, 1, .str r.2, rfl, rfl, SqT.of eq8, at1, _, rfl, rfl, _, rfl, ?_⟩
              rw [take_more hr', List.filter_append]
              by_cases hd : r.2 = t
              · rw [decide_eq_true (show V.str r.2 = V.str t by rw [hd]), List.filter_cons_of_neg (by simpa using hd), List.filter_nil, List.append_nil]
                exact iteF ⟨us, rfl, pu⟩
              · rw [decide_eq_false (fun z => hd (V.str.inj z)), List.filter_cons_of_pos (by simpa using hd)]
                refine iteT ⟨_, rfl, _, upd_same, ?_, us ++ [q], ?_, ?_⟩
                · rw [List.length_map, pu.length]
                  have h1 := List.length_filter_le (fun r : Row => !decide (r.2 = t)) ((stepR es (bfs es s t i).1).take j)
                  rw [List.length_take] at h1
                  omega
                · funext c
                  by_cases ec : c = D2
                  · rw [ec, upd_same, upd_same, List.map_append]; rfl
                  · rw [upd_ne ec, upd_ne ec, upd_ne ec]
                · exact paired_snoc (F := RowW H9) ⟨u, eq, eu⟩ pu
          rintro H8 ⟨us, rfl, pu⟩
          rw [List.length_map, pM9.length, List.take_length] at pu
          have s8 := same_upd (o := .lst (us.map V.ref)) nD2
          exact ⟨D2, W2, _, _, _, _, _, _, _, _, rfl, s5.trans (s7.trans (s9.trans s8)), ⟨us, upd_same, paired_on (fun _ _ g => g.on s8) pu⟩, hW9.on s8⟩
      · rintro σ H5 ⟨R, W, x5, x6, x7, x8, x9, x10, x11, x12, rfl, s5, hR, hW⟩
        exact ⟨R, W, _, _, _, _, _, _, _, _, rfl, s5, hW⟩
    · rintro σ H5 ⟨R, W, x5, x6, x7, x8, x9, x10, x11, x12, rfl, s5, hW⟩
      obtain ⟨qs, eW, pW⟩ := hW
      obtain ⟨bs, e1, e2, h3⟩ := ways_b pW hne
      refine ⟨_, rfl, W, bs, rfl, SqL.of (by rw [eW, ← e1, List.map_map]; rfl), fun b hb => SqT.of (h3 b hb), fun ys D hp nD => ?_⟩
      have s6 := same_upd (o := .lst (ys.map fun b => V.ref b.1)) nD
      refine k D (ys.map fun b => b.2.1 :: b.2.2) _ (s5.trans s6) (s5.free nD) ⟨ys.map (·.1), by rw [upd_same, List.map_map]; rfl, ways_of fun b hb => s6 _ _ (h3 b (hp.mem_iff.mp hb))⟩ ?_
      rw [← e2]
      exact hp.map _
end

/-! ### links in the order of their names -/
theorem risen : ∀ (p : Str) (l : List Str), PyProof.Rows.risingS p l = true → (p :: l).Pairwise fun a b => a.cps.toList ≤ b.cps.toList
  | p, [], _ => List.pairwise_singleton _ _
  | p, x :: r, h => by
    have h1 : (!PySem.Spec.ltCps x.cps.toList p.cps.toList && PyProof.Rows.risingS x r) = true := h
    rw [Bool.and_eq_true, PyProof.Rows.ltCps_eq] at h1
    have le : p.cps.toList ≤ x.cps.toList := by
      have := h1.1
      rw [Bool.not_eq_true', decide_eq_false_iff_not] at this
      exact List.not_lt.mp this
    have ih := risen x r h1.2
    refine List.pairwise_cons.mpr ⟨fun y hy => ?_, ih⟩
    rcases List.mem_cons.mp hy with e | e
    · rw [e]; exact le
    · exact List.le_trans le ((List.pairwise_cons.mp ih).1 y e)
theorem sorted_pw : ∀ {l : List Str}, PyProof.Rows.sortedS l = true → l.Pairwise fun a b => a.cps.toList ≤ b.cps.toList
  | [], _ => .nil
  | p :: r, h => risen p r h
theorem sorted_one {l m : List Str} (p : l.Perm m) (hl : PyProof.Rows.sortedS l = true) (hm : PyProof.Rows.sortedS m = true) : l = m :=
  List.Perm.eq_of_pairwise (fun a b _ _ h1 h2 => Str.ext' (Array.toList_inj.mp (List.le_antisymm h1 h2))) (sorted_pw hl) (sorted_pw hm) p
/-! ### texts as data -/
theorem lay_map {α : Type} (f : α → PyData) : ∀ {xs : List α}, (∀ x ∈ xs, (f x).canLay0 = true) → PyData.canLayAll0 (xs.map f) = true
  | [], _ => rfl
  | x :: xs, h => by
    show ((f x).canLay0 && PyData.canLayAll0 (xs.map f)) = true
    rw [h x List.mem_cons_self, lay_map f fun y hy => h y (List.mem_cons_of_mem _ hy)]
    rfl
theorem depth_map {α : Type} (f : α → PyData) (n : Nat) : ∀ {xs : List α}, (∀ x ∈ xs, (f x).depth ≤ n) → PyData.depthAll (xs.map f) ≤ n
  | [], _ => Nat.zero_le _
  | x :: xs, h => by
    show max (f x).depth (PyData.depthAll (xs.map f)) ≤ n
    have a := h x List.mem_cons_self
    have b := depth_map f n fun y hy => h y (List.mem_cons_of_mem _ hy)
    omega
theorem lay_str {z : Str} (h : Wn z) : (PyData.str z).canLay0 = true := by
  simp only [PyData.canLay0, PyData.strOk]
  rw [Array.all_eq_true]
  intro i hi
  have := h.2 z.cps[i] (by simp)
  simp
  omega
theorem dep_str (z : Str) : (PyData.str z).depth = 0 := by simp [PyData.depth]
theorem shaped_l {α : Type} {f : α → PyData} {xs : List α} {n : Nat} (hn : n ≤ 60) (h1 : ∀ x ∈ xs, (f x).canLay0 = true) (h2 : ∀ x ∈ xs, (f x).depth ≤ n) : SeqAt.shaped (.list (xs.map f)) = true := by
  unfold SeqAt.shaped
  rw [show PyData.canLay0 (.list (xs.map f)) = true by simp only [PyData.canLay0]; exact lay_map f h1, Bool.true_and]
  refine decide_eq_true ?_
  have := depth_map f n h2
  simp only [PyData.depth]
  omega
theorem shaped_txts {zs : List Str} (h : ∀ z ∈ zs, Wn z) : SeqAt.shaped (.list (zs.map PyData.str)) = true := shaped_l (n := 0) (by decide) (fun z hz => lay_str (h z hz)) fun z _ => by rw [dep_str]; exact Nat.le_refl _
theorem shaped_nil : SeqAt.shaped (.list []) = true := shaped_txts (zs := []) fun z hz => by cases hz
theorem eqv_map {α : Type} [DecidableEq α] {f : α → PyData} (hf : ∀ a b, PyData.eqv (f a) (f b) = decide (a = b)) : ∀ xs ys : List α, PyData.eqvAll (xs.map f) (ys.map f) = decide (xs = ys)
  | [], [] => by simp [PyData.eqvAll]
  | [], y :: ys => by simp [PyData.eqvAll]
  | x :: xs, [] => by simp [PyData.eqvAll]
  | x :: xs, y :: ys => by
    rw [List.map_cons, List.map_cons, PyData.eqvAll, hf, eqv_map hf xs ys]
    by_cases h1 : x = y <;> by_cases h2 : xs = ys <;> simp [h1, h2]
theorem eqv_str (a b : Str) : PyData.eqv (.str a) (.str b) = decide (a = b) := by
  rw [PyData.eqv]
  by_cases h : a = b
  · subst h; simp
  · rw [decide_eq_false h]
    exact beq_false_of_ne h
theorem eqv_txts (xs ys : List Str) : PyData.eqv (.list (xs.map PyData.str)) (.list (ys.map PyData.str)) = decide (xs = ys) := by
  rw [PyData.eqv]
  exact eqv_map eqv_str xs ys
theorem dp_txts {K : PySem.W.Frag} {H : Hp} {l : Addr} {zs : List Str} (h : H l = some (.lst (zs.map V.str))) : Dp K H (.ref l) (.list (zs.map PyData.str)) := .lst (SqL.of h) (dp_strs zs)

theorem perm_tab {es ts : List Ent} (nd : (names es).Nodup) (p : ts.Perm es) : ts = tabOf es (names ts) := by
  unfold tabOf names
  rw [List.map_map]
  refine ((List.map_congr_left fun e he => ?_).trans (List.map_id ts)).symm
  show (e.1, (found es e.1).getD ("", "")) = e
  rw [found_mem nd (p.mem_iff.mp he)]
  rfl
theorem ts_one {es ts us : List Ent} (nd : (names es).Nodup) (p : ts.Perm es) (q : us.Perm es) (ht : PyProof.Rows.sortedS (names ts) = true) (hu : PyProof.Rows.sortedS (names us) = true) : ts = us := by
  have e : names ts = names us := sorted_one ((p.map _).trans (q.map _).symm) ht hu
  rw [perm_tab nd p, perm_tab nd q, e]
theorem rowLe_name {b c : RowB} (h : rowLe b c = true) : PySem.Spec.ltCps c.2.1.cps.toList b.2.1.cps.toList = false := by
  unfold rowLe at h
  rw [PySem.W.dataLe_eq] at h
  have h : (!PySem.W.dataLt (rowE c.2) (rowE b.2)) = true := h
  rw [Bool.not_eq_true'] at h
  unfold rowE at h
  rw [PySem.W.dataLt_tuple, PySem.W.dataLt_cons (by simp [PySem.W.alike])] at h
  rw [PyProof.Rows.ltCps_eq]
  by_cases e : c.2.1 = b.2.1
  · rw [e]
    exact decide_eq_false (List.lt_irrefl _)
  · have h3 : PyData.eqv (.str c.2.1) (.str b.2.1) = false := by rw [eqv_str]; exact decide_eq_false e
    rw [h3, if_neg Bool.false_ne_true, PySem.W.dataLt_str] at h
    exact h
theorem rows_sorted (bs : List RowB) : PyProof.Rows.sortedS (names ((bs.mergeSort rowLe).map (·.2))) = true := by
  refine PyProof.Rows.sortedS_of_pairwise _ ?_
  unfold names
  rw [List.map_map, List.pairwise_map]
  have pw : (bs.mergeSort rowLe).Pairwise fun a b => rowLe a b = true := by
    unfold rowLe PySem.W.dataLe
    exact PySem.W.sort_pairwise (PySem.W.sortLe_total _ _ _) bs
  exact pw.imp fun h => rowLe_name h
theorem paired_zip {α β : Type} {F : α → β → Prop} : ∀ {xs : List α} {ys : List β}, Paired F xs ys → (xs.zip ys).map Prod.fst = xs ∧ (xs.zip ys).map Prod.snd = ys ∧ ∀ b ∈ xs.zip ys, F b.1 b.2
  | _, _, .nil => ⟨rfl, rfl, fun b h => by cases h⟩
  | x :: xs, y :: ys, .cons a r => by
    obtain ⟨h1, h2, h3⟩ := paired_zip r
    refine ⟨by rw [List.zip_cons_cons, List.map_cons, h1], by rw [List.zip_cons_cons, List.map_cons, h2], fun b hb => ?_⟩
    rw [List.zip_cons_cons] at hb
    rcases List.mem_cons.mp hb with e | e
    · rw [e]; exact a
    · exact h3 b e

/-! ### what is due -/
def flowI (f : Ent → Int) : List Ent → Int
  | [] => 0
  | e :: r => f e + flowI f r
theorem flowI_snoc (f : Ent → Int) (e : Ent) : ∀ l : List Ent, flowI f (l ++ [e]) = flowI f l + f e
  | [] => by show f e + 0 = 0 + f e; omega
  | x :: l => by show f x + flowI f (l ++ [e]) = f x + flowI f l + f e; rw [flowI_snoc f e l]; omega
def lvI (bs : Tab Int) (n : Str) : Int := (fnd bs n).getD 0
def sideI (zs : List Str) (e : Ent) : Int := (if e.2.1 ∈ zs then 1 else 0) - (if e.2.2 ∈ zs then 1 else 0)
def known (es : List Ent) : List Str := es.map (·.2.1) ++ es.map (·.2.2)
def dueAns (ts : List Ent) (ks zs : List Str) (bs : Tab Int) (bot : Int) : Str ⊕ Rat :=
  match zs.find? (fun z => !decide (z ∈ ks)) with
  | some z => .inl z
  | none => match (names ts).find? (fun n => !decide (n ∈ nms bs)) with
    | some z => .inl z
    | none => .inr (vq (flowI (fun e => lvI bs e.1 * sideI zs e) ts) bot)
theorem side_abs (zs : List Str) (e : Ent) : (sideI zs e).natAbs ≤ 1 := by
  unfold sideI
  by_cases h1 : e.2.1 ∈ zs <;> by_cases h2 : e.2.2 ∈ zs <;> simp [h1, h2]
theorem lvI_abs {bs : Tab Int} {n : Str} (h : ∀ e ∈ bs, e.2.natAbs < 2 ^ 6) : (lvI bs n).natAbs < 2 ^ 6 := by
  unfold lvI
  cases e : fnd bs n with
  | none => decide
  | some x => exact h _ (mem_fnd e)
theorem if_int (p : Prop) [Decidable p] : (if decide p = true then (1 : Int) else 0) = if p then 1 else 0 := by
  by_cases h : p
  · rw [decide_eq_true h, if_pos rfl, if_pos h]
  · rw [decide_eq_false h, if_neg Bool.false_ne_true, if_neg h]
section
variable {P : Program} {w : World} {K : PySem.W.Frag} {mg : Str → Option Value} {base : Heap}
def spDue (RC : Addr) : Sp := fun vs H Q _ => ∃ (l b p : Addr) (bot : Int) (es ts : List Ent) (bs : Tab Int) (zs : List Str), vs = [.ref l, .ref b, .ref p, .int bot] ∧ RowsL H l es ∧ (names es).Nodup ∧ es.length ≤ 10 ∧ ts.Perm es ∧ PyProof.Rows.sortedS (names ts) = true ∧ DictI H b bs ∧ (∀ e ∈ bs, e.2.natAbs < 2 ^ 6) ∧ H p = some (.lst (zs.map V.str)) ∧ 0 < bot ∧ bot.natAbs < 2 ^ 6 ∧
  ∀ T H', Same H H' → TolAt RC H' T (dueAns ts (known es) zs bs bot) 10 → Q (.ref T) H'
theorem ok_due (T : Txt K mg) : FnOk P w K mg base CX0 3 T.f_due T.d_due ["_law_links", "_law_borne", "_law_spots", "_law_bottom"] (spDue T.f_Ratio) := by
  have G_Ratio_init : FnOk P w K mg base CX0 1 T.f_Ratio_init T.d_Ratio_init ["self", "top", "bottom"] (spInit T.f_Ratio) := ok_init T
  have z2 : 2 ≤ sizeLine := by decide
  refine T.F_due.ok sc_due (fun vs H Q E h => ?_) (fun cdv A outer s H vs Q E hr h => ?_)
  · obtain ⟨l, b, p, bot, es, ts, bs, zs, rfl, _⟩ := h
    rfl
  · obtain ⟨l, b, p, bot, es, ts, bs, zs, rfl, ⟨rs, el, pl⟩, nd, h10, pm, srt, ⟨ks, eb, pb⟩, hv, ep, hb0, hb6, k⟩ := h
    refine ⟨_, (pss_cons (ps_set (i := 4) sc_due.nd rfl (Or.inl rfl) (pe_op op_cat (pe_lc (own := [("_law_link", 11)]) (g := gName 11) (tt := tYes) rfl sc_due.nd (pi_list (pv 0)) (blkOk_by (N := ["_law_links", "_law_borne", "_law_spots", "_law_bottom", "_law_known", "_law_place", "_law_total", "_law_name", "_law_tail", "_law_head", "_law_side", "_law_link"]) (sc := defScope s_due) (by decide +kernel)) (fun _ _ _ _ _ => pg_name (i := 11) sc_due.nd rfl (Or.inl rfl)) (fun _ _ _ _ _ => pts_nil) (fun _ _ _ _ _ => (pe_ix (show IxR _ (rIxT K) from ix_tup) (pv 11) pe_int (fun _ _ => rfl)))) (pe_lc (own := [("_law_link", 11)]) (g := gName 11) (tt := tYes) rfl sc_due.nd (pi_list (pv 0)) (blkOk_by (N := ["_law_links", "_law_borne", "_law_spots", "_law_bottom", "_law_known", "_law_place", "_law_total", "_law_name", "_law_tail", "_law_head", "_law_side", "_law_link"]) (sc := defScope s_due) (by decide +kernel)) (fun _ _ _ _ _ => pg_name (i := 11) sc_due.nd rfl (Or.inl rfl)) (fun _ _ _ _ _ => pts_nil) (fun _ _ _ _ _ => (pe_ix (show IxR _ (rIxT K) from ix_tup) (pv 11) pe_int (fun _ _ => rfl))))))
    (C8.pss_cut (ps_for PassesOwn.never rfl (pi_list (pv 2)) (pg_name (i := 5) sc_due.nd rfl (Or.inl rfl))
      (pss_one (ps_if (pt_cmpR op_notIn_seq (pv 5) (pv 4) (by with_unfolding_all rfl))
      (pss_one (ps_ret (pe_tup (pa_cons pe_str (pa_cons (pv 5) pa_nil)))))
      pss_nil)))
    (pss_cons (ps_set (i := 6) sc_due.nd rfl (Or.inl rfl) pe_int)
    (C8.pss_cut (ps_for PassesOwn.never rfl (pi_list (pe_callB (cr_sortRows hr.units) (by rfl) T.n_sorted (by decide +kernel) (pa_cons (pv 0) pa_nil))) (pg_tup rfl (pgs_cons (pg_name (i := 7) sc_due.nd rfl (Or.inl rfl)) (pgs_cons (pg_name (i := 8) sc_due.nd rfl (Or.inl rfl)) (pgs_cons (pg_name (i := 9) sc_due.nd rfl (Or.inl rfl)) pgs_nil))))
      (pss_cons (ps_if (pt_cmp (pc_dnotin (hu_of hr) (pv 7) (pv 1)))
      (pss_one (ps_ret (pe_tup (pa_cons pe_str (pa_cons (pv 7) pa_nil)))))
      pss_nil)
    (pss_cons (ps_set (i := 10) sc_due.nd rfl (Or.inl rfl) (pe_op op_sub (pe_callTy call_int1 (by rfl) T.n_int (by decide +kernel) (pa_cons (pe_cmpR op_in_seq (pv 8) (pv 2) (by with_unfolding_all rfl)) pa_nil)) (pe_callTy call_int1 (by rfl) T.n_int (by decide +kernel) (pa_cons (pe_cmpR op_in_seq (pv 9) (pv 2) (by with_unfolding_all rfl)) pa_nil))))
    (pss_one (ps_set (i := 6) sc_due.nd rfl (Or.inl rfl) (pe_op op_add (pv 6) (pe_op op_mulW (pe_dget (hu_of hr) (pv 1) (pv 7) (fun _ _ => rfl)) (pv 10))))))))
    (pss_one (ps_ret (pe_tup (pa_cons pe_str (pa_cons (pe_make T.mk_Ratio G_Ratio_init (hr.mono (by decide)) rfl T.m_Ratio T.b2_Ratio_init T.v2_Ratio_init pass0 (pa_cons (pv 6) (pa_cons (pv 3) pa_nil))) pa_nil))))))))), ?_⟩
    refine ⟨_, rfl, l, rfl, ⟨_, SqL.of el⟩, fun D1 nD1 => ?_⟩
    have lD1 : l ≠ D1 := ne_of_none el nD1
    refine lc_list (K := K) (a := l) (xs := rs.map V.ref) (fun j H' => H' = upd H D1 (.lst (((es.take j).map (·.2.1)).map V.str))) rfl (fun j H' _ e => by rw [e]; exact SqL.of (by rw [upd_ne lD1]; exact el)) ?_ ?_
    · rintro j x H1 hj rfl
      rw [List.getElem?_map] at hj
      cases hq : rs[j]? with
      | none => rw [hq] at hj; cases hj
      | some q =>
        rw [hq] at hj
        obtain rfl := Option.some.inj hj
        obtain ⟨e, he, re⟩ := pair_at pl hq
        have re : H q = some (.tup [.str e.1, .str e.2.1, .str e.2.2]) := re
        refine ⟨rfl, _, rfl, q, _, 1, .str e.2.1, rfl, rfl, SqT.of (by rw [upd_ne (ne_of_none re nD1)]; exact re), at1, _, upd_same, small1000 (by rw [List.length_map, List.length_map, List.length_take]; omega), ?_⟩
        rw [take_more he, List.map_append, List.map_append]
        funext c
        by_cases ec : c = D1
        · rw [ec, upd_same, upd_same]; rfl
        · rw [upd_ne ec, upd_ne ec, upd_ne ec]
    rintro H1 rfl
    rw [List.length_map, pl.length, List.take_length]
    have s1 := same_upd (o := .lst ((es.map (·.2.1)).map V.str)) nD1
    have e1 : (upd H D1 (.lst ((es.map (·.2.1)).map V.str))) D1 = some (.lst ((es.map (·.2.1)).map V.str)) := upd_same
    generalize upd H D1 (.lst ((es.map (·.2.1)).map V.str)) = H1 at s1 e1 ⊢
    refine ⟨_, rfl, l, rfl, ⟨_, SqL.of (s1 _ _ el)⟩, fun D2 nD2 => ?_⟩
    have el1 := s1 _ _ el
    have lD2 : l ≠ D2 := ne_of_none el1 nD2
    refine lc_list (K := K) (a := l) (xs := rs.map V.ref) (fun j H' => H' = upd H1 D2 (.lst (((es.take j).map (·.2.2)).map V.str))) rfl (fun j H' _ e => by rw [e]; exact SqL.of (by rw [upd_ne lD2]; exact el1)) ?_ ?_
    · rintro j x H2 hj rfl
      rw [List.getElem?_map] at hj
      cases hq : rs[j]? with
      | none => rw [hq] at hj; cases hj
      | some q =>
        rw [hq] at hj
        obtain rfl := Option.some.inj hj
        obtain ⟨e, he, re⟩ := pair_at pl hq
        have re : H1 q = some (.tup [.str e.1, .str e.2.1, .str e.2.2]) := s1 _ _ re
        refine ⟨rfl, _, rfl, q, _, 2, .str e.2.2, rfl, rfl, SqT.of (by rw [upd_ne (ne_of_none re nD2)]; exact re), atI_nat (j := 2) rfl, _, upd_same, small1000 (by rw [List.length_map, List.length_map, List.length_take]; omega), ?_⟩
        rw [take_more he, List.map_append, List.map_append]
        funext c
        by_cases ec : c = D2
        · rw [ec, upd_same, upd_same]; rfl
        · rw [upd_ne ec, upd_ne ec, upd_ne ec]
    rintro H2 rfl
    rw [List.length_map, pl.length, List.take_length]
    have s2 := s1.trans (same_upd (o := .lst ((es.map (·.2.2)).map V.str)) nD2)
    have e2 : (upd H1 D2 (.lst ((es.map (·.2.2)).map V.str))) D2 = some (.lst ((es.map (·.2.2)).map V.str)) := upd_same
    have e1 := same_upd (o := .lst ((es.map (·.2.2)).map V.str)) nD2 _ _ e1
    generalize upd H1 D2 (.lst ((es.map (·.2.2)).map V.str)) = H2 at s2 e1 e2 ⊢
    refine ⟨D1, D2, _, _, rfl, rfl, e1, e2, Nat.le_of_lt (small1000 (by simp only [List.length_map]; omega)), fun D3 nD3 => ?_⟩
    have s3 := s2.trans (same_upd (o := .lst ((es.map (·.2.1)).map V.str ++ (es.map (·.2.2)).map V.str)) nD3)
    have e3 : (upd H2 D3 (.lst ((es.map (·.2.1)).map V.str ++ (es.map (·.2.2)).map V.str))) D3 = some (.lst ((known es).map V.str)) := by
      rw [upd_same]
      unfold known
      rw [List.map_append]
    generalize upd H2 D3 (.lst ((es.map (·.2.1)).map V.str ++ (es.map (·.2.2)).map V.str)) = H3 at s3 e3 ⊢
    clear s1 s2 e1 e2 el1 nD1 nD2 nD3
    refine ⟨fun σ H' => ∃ x5, σ = [some (.ref l), some (.ref b), some (.ref p), some (.int bot), some (.ref D3), x5, none, none, none, none, none, none] ∧ Same H3 H' ∧ zs.find? (fun z => !decide (z ∈ known es)) = none, ?_, ?_⟩
    · refine ⟨_, rfl, p, rfl, ⟨_, SqL.of (s3 _ _ ep)⟩, ?_⟩
      refine for_list (K := K) (a := p) (xs := zs.map V.str) (fun j σ H' => ∃ x5, σ = [some (.ref l), some (.ref b), some (.ref p), some (.int bot), some (.ref D3), x5, none, none, none, none, none, none] ∧ Same H3 H' ∧ ∀ z ∈ zs.take j, z ∈ known es) ⟨_, rfl, Same.refl _, fun z hz => by simp at hz⟩ (fun j σ H' _ ⟨_, _, s, _⟩ => SqL.of (s _ _ (s3 _ _ ep))) ?_ ?_
      · rintro i v σ H' hi ⟨x5, rfl, s4, hz⟩
        rw [List.getElem?_map] at hi
        cases ez : zs[i]? with
        | none => rw [ez] at hi; cases hi
        | some z =>
          rw [ez] at hi
          obtain rfl := Option.some.inj hi
          refine ⟨_, rfl, _, rfl, D3, _, rfl, .inl (SqL.of (s4 _ _ e3)), rfl, flat_names (known es), _, rfl, ?_⟩
          rw [if_pos rfl, inV_names]
          by_cases hm : z ∈ known es
          · rw [decide_eq_true hm]
            refine iteF ⟨_, rfl, s4, fun y hy => ?_⟩
            rw [take_more ez] at hy
            rcases List.mem_append.mp hy with hy | hy
            · exact hz y hy
            · rw [List.mem_singleton.mp hy]; exact hm
          · rw [decide_eq_false hm]
            refine iteT ⟨_, rfl, z2, fun Tt nT => k Tt _ (s3.trans (s4.trans (same_upd nT))) ?_⟩
            have hf : zs.find? (fun z => !decide (z ∈ known es)) = some z := find_at (fun y hy => by rw [decide_eq_true (hz y hy)]; rfl) ez (by rw [decide_eq_false hm]; rfl)
            unfold dueAns
            rw [hf]
            exact upd_same
      · rintro σ H' ⟨x5, rfl, s4, hz⟩
        refine ⟨x5, rfl, s4, ?_⟩
        rw [List.length_map, List.take_length] at hz
        rw [List.find?_eq_none]
        intro z hz'
        rw [decide_eq_true (hz z hz')]
        decide
    rintro σ H4 ⟨x5, rfl, s4, hz⟩
    have s04 := s3.trans s4
    refine ⟨fun σ H' => ∃ x7 x8 x9 x10, σ = [some (.ref l), some (.ref b), some (.ref p), some (.int bot), some (.ref D3), x5, some (.int (flowI (fun e => lvI bs e.1 * sideI zs e) ts)), x7, x8, x9, x10, none] ∧ Same H H' ∧ (names ts).find? (fun n => !decide (n ∈ nms bs)) = none ∧ (flowI (fun e => lvI bs e.1 * sideI zs e) ts).natAbs ≤ 64 * ts.length, ?_, ?_⟩
    · obtain ⟨p1, p2, p3⟩ := paired_zip pl
      refine ⟨_, rfl, l, (rs.zip es : List RowB), rfl, SqL.of (by rw [s04 _ _ el]; have := congrArg (List.map V.ref) p1; rw [List.map_map] at this; rw [← this]; rfl), fun q hq => SqT.of (s04 _ _ (p3 q hq)), fun sp nsp => ?_⟩
      have hperm := List.mergeSort_perm (rs.zip es : List RowB) rowLe
      have hus : ((rs.zip es : List RowB).mergeSort rowLe).map (·.2) = ts := ts_one nd ((hperm.map _).trans (by rw [p2])) pm (rows_sorted _) srt
      generalize (rs.zip es : List RowB).mergeSort rowLe = B at hperm hus ⊢
      have hBl : B.length = ts.length := by rw [← hus, List.length_map]
      have s5 := s04.trans (same_upd (o := .lst (B.map fun b => V.ref b.1)) nsp)
      have esp : (upd H4 sp (.lst (B.map fun b => V.ref b.1))) sp = some (.lst (B.map fun b => V.ref b.1)) := upd_same
      generalize upd H4 sp (.lst (B.map fun b => V.ref b.1)) = H5 at s5 esp ⊢
      refine ⟨sp, rfl, ⟨_, SqL.of esp⟩, ?_⟩
      refine for_list (K := K) (a := sp) (xs := B.map fun b => V.ref b.1) (fun j σ H' => ∃ x7 x8 x9 x10, σ = [some (.ref l), some (.ref b), some (.ref p), some (.int bot), some (.ref D3), x5, some (.int (flowI (fun e => lvI bs e.1 * sideI zs e) (ts.take j))), x7, x8, x9, x10, none] ∧ Same H5 H' ∧ (∀ n ∈ (names ts).take j, n ∈ nms bs) ∧ (flowI (fun e => lvI bs e.1 * sideI zs e) (ts.take j)).natAbs ≤ 64 * j) ⟨_, _, _, _, rfl, Same.refl _, fun n hn => by simp at hn, Nat.le_of_eq rfl⟩ (fun j σ H' _ ⟨_, _, _, _, _, s, _⟩ => SqL.of (s _ _ esp)) ?_ ?_
      · rintro j x σ H6 hj ⟨x7, x8, x9, x10, rfl, s6, hn, habs⟩
        rw [List.getElem?_map] at hj
        cases hq : B[j]? with
        | none => rw [hq] at hj; cases hj
        | some q =>
          rw [hq] at hj
          obtain rfl := Option.some.inj hj
          have re := p3 q (hperm.mem_iff.mp (List.mem_of_getElem? hq))
          have re : H q.1 = some (.tup [.str q.2.1, .str q.2.2.1, .str q.2.2.2]) := re
          have ht : ts[j]? = some q.2 := by rw [← hus, List.getElem?_map, hq]; rfl
          have hjl := (List.getElem?_eq_some_iff.mp ht).1
          have hts : ts.length ≤ 10 := by rw [pm.length_eq]; exact h10
          have en : (names ts)[j]? = some q.2.1 := by unfold names; rw [List.getElem?_map, ht]; rfl
          have s56 := s5.trans s6
          refine ⟨q.1, _, rfl, SqT.of (s56 _ _ re), rfl, _, _, rfl, _, _, rfl, _, _, rfl, rfl, ?_⟩
          refine ⟨_, rfl, _, rfl, b, _, rfl, DGet.k (k := .inr q.2.1) (s56 _ _ eb), ?_⟩
          have hv1 : (valV ks (.inr q.2.1 : Key)).isSome = decide (q.2.1 ∈ nms bs) := by
            rw [← fnd_isSome]
            rcases val_of (n := q.2.1) pb with ⟨f1, f2⟩ | ⟨x, v, f1, f2, _⟩ <;> rw [f1, f2] <;> rfl
          rw [hv1]
          by_cases hm : q.2.1 ∈ nms bs
          · rw [decide_eq_true hm]
            refine ⟨_, rfl, iteF ?_⟩
            have hv2 : valV ks (.inr q.2.1 : Key) = some (.int (lvI bs q.2.1)) := by
              rcases val_of (n := q.2.1) pb with ⟨f1, f2⟩ | ⟨x, v, f1, f2, hx⟩
              · have := fnd_isSome (es := bs) (n := q.2.1)
                rw [f1, decide_eq_true hm] at this
                cases this
              · rw [f2]
                have hx : v = .int x := hx
                unfold lvI
                rw [hx, f1]
                rfl
            refine ⟨_, rfl, _, rfl, p, _, rfl, .inl (SqL.of (s56 _ _ ep)), rfl, flat_names zs, .inr ⟨_, rfl, ?_⟩⟩
            rw [if_neg Bool.false_ne_true, inV_names]
            refine ⟨_, rfl, _, rfl, p, _, rfl, .inl (SqL.of (s56 _ _ ep)), rfl, flat_names zs, .inr ⟨_, rfl, ?_⟩⟩
            rw [if_neg Bool.false_ne_true, inV_names]
            refine ⟨(if q.2.2.1 ∈ zs then (1 : Int) else 0), (if q.2.2.2 ∈ zs then (1 : Int) else 0), by rw [if_int], by rw [if_int], ?_⟩
            have hs1 := side_abs zs q.2
            have hl6 := lvI_abs (n := q.2.1) hv
            refine ⟨_, rfl, _, rfl, _, rfl, b, .int (lvI bs q.2.1), rfl, by rw [← hv2]; exact DGet.k (k := .inr q.2.1) (s56 _ _ eb), .int (sideI zs q.2), rfl, lvI bs q.2.1, sideI zs q.2, rfl, rfl, wide_mul (a := 6) (b := 1) hl6 (by omega) (by decide) (by decide) (by decide), _, _, rfl, rfl, ?_⟩
            have tkt := take_more ht
            rw [tkt, flowI_snoc]
            refine ⟨_, _, _, _, rfl, s6, fun n hn' => ?_, ?_⟩
            · rw [take_more en] at hn'
              rcases List.mem_append.mp hn' with h | h
              · exact hn n h
              · rw [List.mem_singleton.mp h]; exact hm
            · have h1 : (lvI bs q.2.1 * sideI zs q.2).natAbs ≤ 64 := by
                rw [Int.natAbs_mul]
                have := Nat.mul_le_mul (Nat.le_of_lt hl6) hs1
                omega
              have h2 := Int.natAbs_add_le (flowI (fun e => lvI bs e.1 * sideI zs e) (ts.take j)) (lvI bs q.2.1 * sideI zs q.2)
              omega
          · rw [decide_eq_false hm]
            refine ⟨_, rfl, iteT ⟨_, rfl, z2, fun Tt nT => k Tt _ (s56.trans (same_upd nT)) ?_⟩⟩
            have hf : (names ts).find? (fun n => !decide (n ∈ nms bs)) = some q.2.1 := find_at (fun y hy => by rw [decide_eq_true (hn y hy)]; rfl) en (by rw [decide_eq_false hm]; rfl)
            unfold dueAns
            rw [hz, hf]
            exact upd_same
      · rintro σ H6 ⟨x7, x8, x9, x10, rfl, s6, hn, habs⟩
        rw [List.length_map, hBl, List.take_length] at habs
        rw [List.length_map, hBl, show (names ts).take ts.length = names ts from List.take_of_length_le (by unfold names; rw [List.length_map]; exact Nat.le_refl _)] at hn
        rw [List.length_map, hBl, List.take_length]
        refine ⟨x7, x8, x9, x10, rfl, s5.trans s6, ?_, habs⟩
        rw [List.find?_eq_none]
        intro n hn'
        rw [decide_eq_true (hn n hn')]
        decide
    · rintro σ H6 ⟨x7, x8, x9, x10, rfl, s6, hn, habs⟩
      have hts : ts.length ≤ 10 := by rw [pm.length_eq]; exact h10
      have hbne : bot ≠ 0 := by omega
      refine ⟨_, rfl, _, rfl, fun q dq nq ndq neq => ?_⟩
      refine ⟨q, dq, _, bot, rfl, upd_same, hbne, Nat.lt_trans hb6 (Nat.pow_lt_pow_right (by decide) (by decide)), fun K1 rk st1 => ⟨rfl, z2, fun Tt nT => ?_⟩⟩
      have s7 := s6.trans (Same.made nq ndq st1)
      refine k Tt _ (s7.trans (same_upd nT)) ?_
      unfold dueAns
      rw [hz, hn]
      have r1 : RV T.f_Ratio K1 q (vq (flowI (fun e => lvI bs e.1 * sideI zs e) ts) bot) 10 := ⟨_, _, rk, Low.of hbne, vq_low hbne, Sz.low ⟨by omega, Nat.lt_trans hb6 (by decide)⟩ hbne⟩
      exact ⟨q, upd_same, r1.on (same_upd nT)⟩
end

/-! ### walks of links -/
inductive Wk (es : List Ent) (s : Str) : List Str → Str → Prop
  | nil : Wk es s [] s
  | snoc {w : List Str} {e : Ent} : Wk es s w e.2.1 → e ∈ es → Wk es s (w ++ [e.1]) e.2.2
theorem NetOk.noOut {es : List Ent} {s t : Str} {mo : Nat} (h : NetOk es s t mo) {e : Ent} (he : e ∈ es) : e.2.1 ≠ t := fun z => by
  rcases (h.use e he).2 with q | q
  · exact h.acy t (by have := Lead.one he; rw [z, q] at this; exact this)
  · exact h.acy t (by have := (Lead.one he).trans q; rw [z] at this; exact this)
theorem NetOk.noLead {es : List Ent} {s t : Str} {mo : Nat} (h : NetOk es s t mo) (q : Str) : ¬ Lead es t q := fun z => by
  obtain ⟨e, he, e1⟩ := z.first
  exact h.noOut he e1
theorem NetOk.out {es : List Ent} {s t : Str} {mo : Nat} (h : NetOk es s t mo) {w : List Str} {p : Str} (k : Wk es s w p) (hp : p ≠ t) : ∃ e ∈ es, e.2.1 = p := by
  cases k with
  | nil =>
    obtain ⟨e, he⟩ := List.exists_mem_of_length_pos (show 0 < es.length from h.few)
    rcases (h.use e he).1 with q | q
    · exact ⟨e, he, q⟩
    · exact q.first
  | @snoc w e k he =>
    rcases (h.use e he).2 with q | q
    · exact absurd q hp
    · exact q.first
theorem wk_places {es : List Ent} {s t : Str} (h : NetOk es s t 8) {w : List Str} {p : Str} (k : Wk es s w p) : ∃ vs : List Str, vs.length = w.length + 1 ∧ vs.Nodup ∧ (∀ v ∈ vs, v = p ∨ Lead es v p) ∧ ∀ v ∈ vs, v = s ∨ ∃ e ∈ es, v = e.2.2 := by
  induction k with
  | nil => exact ⟨[s], rfl, by simp, fun v hv => .inl (List.mem_singleton.mp hv), fun v hv => .inl (List.mem_singleton.mp hv)⟩
  | @snoc w e k he ih =>
    obtain ⟨vs, h1, h2, h3, h4⟩ := ih
    refine ⟨vs ++ [e.2.2], by rw [List.length_append, List.length_append, h1]; rfl, List.nodup_append.mpr ⟨h2, by simp, fun a ha b hb z => ?_⟩, fun v hv => ?_, fun v hv => ?_⟩
    · have hb := List.mem_singleton.mp hb
      rw [z, hb] at ha
      rcases h3 _ ha with q | q
      · exact h.acy e.2.2 (by have := Lead.one he; rw [← q] at this; exact this)
      · exact h.acy e.2.2 (Lead.more q he)
    · rcases List.mem_append.mp hv with hv | hv
      · rcases h3 v hv with q | q
        · rw [q]; exact .inr (.one he)
        · exact .inr (.more q he)
      · exact .inl (List.mem_singleton.mp hv)
    · rcases List.mem_append.mp hv with hv | hv
      · exact h4 v hv
      · exact .inr ⟨e, he, List.mem_singleton.mp hv⟩
theorem wk_short {es : List Ent} {s t : Str} (h : NetOk es s t 8) {w : List Str} {p : Str} (k : Wk es s w p) (hp : p ≠ t) : w.length ≤ 6 := by
  obtain ⟨vs, h1, h2, h3, h4⟩ := wk_places h k
  obtain ⟨sp, a, b, c, d⟩ := h.sp
  have ht : t ∉ vs := fun z => by
    rcases h3 t z with q | q
    · exact hp q.symm
    · exact h.noLead p q
  have := nd_len (l := t :: vs) (m := sp) (List.nodup_cons.mpr ⟨ht, h2⟩) fun x hx => by
    rcases List.mem_cons.mp hx with e | hx
    · rw [e]; exact c
    · rcases h4 x hx with e | ⟨e, he, q⟩
      · rw [e]; exact b
      · rw [q]; exact (d e he).2
  rw [List.length_cons, h1] at this
  omega
/-- the names of a walk are no names of links ahead of it -/
theorem wk_nd {es : List Ent} {s t : Str} (h : NetOk es s t 8) {w : List Str} {p : Str} (k : Wk es s w p) : ∀ e ∈ es, e.1 ∈ w → e.2.2 = p ∨ Lead es e.2.2 p := by
  induction k with
  | nil => intro e _ hm; cases hm
  | @snoc w f k hf ih =>
    intro e he hm
    rcases List.mem_append.mp hm with hm | hm
    · rcases ih e he hm with q | q
      · exact .inr (by have := Lead.one hf; rw [← q] at this; exact this)
      · exact .inr (.more q hf)
    · left
      have e1 : e.1 = f.1 := List.mem_singleton.mp hm
      have h1 := found_mem h.nd he
      have h2 := found_mem h.nd hf
      rw [e1, h2] at h1
      rw [← Option.some.inj h1]
theorem wk_new {es : List Ent} {s t : Str} (h : NetOk es s t 8) {w : List Str} {e : Ent} (k : Wk es s w e.2.1) (he : e ∈ es) : e.1 ∉ w := fun hm => by
  rcases wk_nd h k e he hm with q | q
  · exact h.acy e.2.1 (by have := Lead.one he; rw [q] at this; exact this)
  · exact h.acy e.2.2 (.more q he)
/-! ### what the turns find -/
theorem bfs_walk {es : List Ent} {s t : Str} (hst : s ≠ t) : ∀ k, (∀ r ∈ (bfs es s t k).1, Wk es s r.1 r.2 ∧ r.2 ≠ t) ∧ ∀ w ∈ (bfs es s t k).2, Wk es s w t ∧ w ≠ []
  | 0 => ⟨fun r h => by rw [List.mem_singleton.mp h]; exact ⟨.nil, hst⟩, fun w h => by cases h⟩
  | k + 1 => by
    obtain ⟨h1, h2⟩ := bfs_walk hst k
    have hs : ∀ r ∈ stepR es (bfs es s t k).1, Wk es s r.1 r.2 ∧ r.1 ≠ [] := fun r hr => by
      obtain ⟨r', hr', hm⟩ := List.mem_flatMap.mp hr
      obtain ⟨e, he, rfl⟩ := List.mem_map.mp hm
      obtain ⟨he, e1⟩ := List.mem_filter.mp he
      have e1 : e.2.1 = r'.2 := of_decide_eq_true e1
      have k := (h1 r' hr').1
      rw [← e1] at k
      exact ⟨.snoc k he, by simp⟩
    refine ⟨fun r hr => ?_, fun w hw => ?_⟩
    · obtain ⟨hr, hd⟩ := List.mem_filter.mp hr
      exact ⟨(hs r hr).1, by simpa using hd⟩
    · rcases List.mem_append.mp hw with hw | hw
      · exact h2 w hw
      · obtain ⟨r, hr, rfl⟩ := List.mem_map.mp hw
        obtain ⟨hr, hd⟩ := List.mem_filter.mp hr
        have hd : r.2 = t := of_decide_eq_true hd
        have := hs r hr
        rw [hd] at this
        exact this
theorem step_len {es : List Ent} (h : es.length ≤ 10) : ∀ rows : List Row, (stepR es rows).length ≤ 10 * rows.length
  | [] => Nat.zero_le _
  | r :: rows => by
    have ih := step_len h rows
    have h1 : (oneR es r).length ≤ 10 := by
      unfold oneR
      rw [List.length_map]
      exact Nat.le_trans (List.length_filter_le _ _) h
    have e : stepR es (r :: rows) = oneR es r ++ stepR es rows := by unfold stepR; rw [List.flatMap_cons]
    rw [e, List.length_append, List.length_cons]
    omega
theorem bfs_seven {es : List Ent} {s t : Str} (h : NetOk es s t 8) {k : Nat} (hk : 7 ≤ k) : (bfs es s t k).1 = [] := by
  refine List.eq_nil_iff_forall_not_mem.mpr fun r hr => ?_
  obtain ⟨a, b⟩ := (bfs_walk h.ne k).1 r hr
  have := wk_short h a b
  rw [bfs_len k r hr] at this
  omega
theorem bfs_bound {es : List Ent} {s t : Str} (h10 : es.length ≤ 10) : ∀ k, (bfs es s t k).1.length ≤ 10 ^ k ∧ 9 * (bfs es s t k).2.length + 10 ≤ 10 ^ (k + 1)
  | 0 => ⟨Nat.le_refl _, Nat.le_refl _⟩
  | k + 1 => by
    obtain ⟨h1, h2⟩ := bfs_bound (s := s) (t := t) h10 k
    have hs := step_len h10 (bfs es s t k).1
    have f1 := List.length_filter_le (fun r : Row => !decide (r.2 = t)) (stepR es (bfs es s t k).1)
    have f2 := List.length_filter_le (fun r : Row => decide (r.2 = t)) (stepR es (bfs es s t k).1)
    have e1 : (bfs es s t (k + 1)).1 = (stepR es (bfs es s t k).1).filter fun r => !decide (r.2 = t) := rfl
    have e2 : (bfs es s t (k + 1)).2 = (bfs es s t k).2 ++ ((stepR es (bfs es s t k).1).filter fun r => decide (r.2 = t)).map (·.1) := rfl
    have p1 : 10 ^ (k + 1) = 10 * 10 ^ k := by rw [Nat.pow_succ]; omega
    have p2 : 10 ^ (k + 1 + 1) = 10 * 10 ^ (k + 1) := by rw [Nat.pow_succ 10 (k + 1)]; omega
    rw [e1, e2, List.length_append, List.length_map]
    omega
theorem bfs_small {es : List Ent} {s t : Str} (h : NetOk es s t 8) (h10 : es.length ≤ 10) : ∀ k < 8, (stepR es (bfs es s t k).1).length < 2 ^ 24 ∧ (bfs es s t (k + 1)).2.length < 2 ^ 24 := by
  intro k hk
  by_cases h7 : k = 7
  · subst h7
    have e := bfs_seven h (k := 7) (Nat.le_refl _)
    have b := (bfs_bound (s := s) (t := t) h10 7).2
    have e2 : (bfs es s t (7 + 1)).2 = (bfs es s t 7).2 ++ ((stepR es (bfs es s t 7).1).filter fun r => decide (r.2 = t)).map (·.1) := rfl
    rw [e2, e]
    refine ⟨by show (0 : Nat) < 2 ^ 24; decide, ?_⟩
    rw [List.length_append]
    have z : (((stepR es []).filter fun r => decide (r.2 = t)).map (·.1)).length = 0 := rfl
    rw [z]
    have : (10 : Nat) ^ (7 + 1) = 100000000 := by decide
    have : (2 : Nat) ^ 24 = 16777216 := by decide
    omega
  · have b1 := (bfs_bound (s := s) (t := t) h10 k).1
    have b2 := (bfs_bound (s := s) (t := t) h10 (k + 1)).2
    have hs := step_len h10 (bfs es s t k).1
    have p1 : (10 : Nat) ^ k ≤ 10 ^ 6 := Nat.pow_le_pow_right (by decide) (by omega)
    have p2 : (10 : Nat) ^ (k + 1 + 1) ≤ 10 ^ 8 := Nat.pow_le_pow_right (by decide) (by omega)
    have : (10 : Nat) ^ 6 = 1000000 := by decide
    have : (10 : Nat) ^ 8 = 100000000 := by decide
    have : (2 : Nat) ^ 24 = 16777216 := by decide
    omega
theorem bfs_some {es : List Ent} {s t : Str} (h : NetOk es s t 8) : ∀ k, (bfs es s t k).1 ≠ [] ∨ (bfs es s t k).2 ≠ []
  | 0 => .inl (by simp [bfs])
  | k + 1 => by
    have e1 : (bfs es s t (k + 1)).1 = (stepR es (bfs es s t k).1).filter fun r => !decide (r.2 = t) := rfl
    have e2 : (bfs es s t (k + 1)).2 = (bfs es s t k).2 ++ ((stepR es (bfs es s t k).1).filter fun r => decide (r.2 = t)).map (·.1) := rfl
    rcases bfs_some h k with q | q
    · obtain ⟨r, hr⟩ := List.exists_mem_of_ne_nil _ q
      obtain ⟨a, b⟩ := (bfs_walk h.ne k).1 r hr
      obtain ⟨e, he, e3⟩ := h.out a b
      have hm : ((r.1 ++ [e.1], e.2.2) : Row) ∈ stepR es (bfs es s t k).1 := List.mem_flatMap.mpr ⟨r, hr, List.mem_map.mpr ⟨e, List.mem_filter.mpr ⟨he, decide_eq_true e3⟩, rfl⟩⟩
      by_cases z : e.2.2 = t
      · right
        rw [e2]
        intro hn
        have := (List.append_eq_nil_iff.mp hn).2
        have m2 : r.1 ++ [e.1] ∈ ((stepR es (bfs es s t k).1).filter fun r => decide (r.2 = t)).map (·.1) := List.mem_map.mpr ⟨_, List.mem_filter.mpr ⟨hm, decide_eq_true z⟩, rfl⟩
        rw [this] at m2
        cases m2
      · left
        rw [e1]
        intro hn
        have m2 : ((r.1 ++ [e.1], e.2.2) : Row) ∈ (stepR es (bfs es s t k).1).filter fun r => !decide (r.2 = t) := List.mem_filter.mpr ⟨hm, by simpa using z⟩
        rw [hn] at m2
        cases m2
    · right
      rw [e2]
      intro hn
      exact q (List.append_eq_nil_iff.mp hn).1
theorem bfs_ways {es : List Ent} {s t : Str} (h : NetOk es s t 8) : (bfs es s t 8).2 ≠ [] := by
  rcases bfs_some h 8 with q | q
  · exact absurd (bfs_seven h (by decide)) q
  · exact q
/-! ### what enters leaves -/
theorem flowI_add (f g : Ent → Int) : ∀ l : List Ent, flowI (fun e => f e + g e) l = flowI f l + flowI g l
  | [] => rfl
  | e :: l => by
    show f e + g e + flowI (fun e => f e + g e) l = f e + flowI f l + (g e + flowI g l)
    rw [flowI_add f g l]
    omega
theorem flowI_mul (a : Int) (f : Ent → Int) : ∀ l : List Ent, flowI (fun e => a * f e) l = a * flowI f l
  | [] => by show (0 : Int) = a * 0; omega
  | e :: l => by
    show a * f e + flowI (fun e => a * f e) l = a * (f e + flowI f l)
    rw [flowI_mul a f l, Int.mul_add]
theorem flowI_congr {f g : Ent → Int} : ∀ {l : List Ent}, (∀ e ∈ l, f e = g e) → flowI f l = flowI g l
  | [], _ => rfl
  | e :: l, h => by
    show f e + flowI f l = g e + flowI g l
    rw [h e List.mem_cons_self, flowI_congr fun x hx => h x (List.mem_cons_of_mem _ hx)]
theorem flowI_zero : ∀ l : List Ent, flowI (fun _ => 0) l = 0
  | [] => rfl
  | e :: l => by show 0 + flowI (fun _ => 0) l = 0; rw [flowI_zero l]; rfl
/-- one link only -/
theorem flowI_one (f : Ent → Int) : ∀ {l : List Ent} {e : Ent}, (names l).Nodup → e ∈ l → flowI (fun x => if x.1 = e.1 then f x else 0) l = f e
  | x :: l, e, nd, he => by
    have nd' : (x.1 :: names l).Nodup := nd
    obtain ⟨n1, n2⟩ := List.nodup_cons.mp nd'
    show (if x.1 = e.1 then f x else 0) + flowI (fun x => if x.1 = e.1 then f x else 0) l = f e
    rcases List.mem_cons.mp he with h | h
    · subst h
      rw [if_pos rfl, flowI_congr (g := fun _ => 0) (fun y hy => if_neg fun z => n1 (by rw [← z]; exact List.mem_map_of_mem (f := (·.1)) hy)), flowI_zero]
      omega
    · have ne : x.1 ≠ e.1 := fun z => n1 (by rw [z]; exact List.mem_map_of_mem (f := (·.1)) h)
      rw [if_neg ne, flowI_one f n2 h]
      omega
def inB (zs : List Str) (p : Str) : Int := if p ∈ zs then 1 else 0
theorem flow_walk {es ts : List Ent} {s t : Str} (h : NetOk es s t 8) (pm : ts.Perm es) (zs : List Str) {w : List Str} {p : Str} (k : Wk es s w p) : flowI (fun e => if e.1 ∈ w then sideI zs e else 0) ts = inB zs s - inB zs p := by
  have pn : (names ts).Perm (names es) := pm.map fun e : Ent => e.1
  have ndt : (names ts).Nodup := pn.nodup_iff.mpr h.nd
  induction k with
  | nil =>
    rw [flowI_congr (g := fun _ => 0) (fun e _ => if_neg (by simp)), flowI_zero]
    omega
  | @snoc w f k hf ih =>
    have hn := wk_new h k hf
    rw [flowI_congr (g := fun e => (if e.1 ∈ w then sideI zs e else 0) + if e.1 = f.1 then sideI zs e else 0) (fun e _ => ?_), flowI_add, ih, flowI_one (sideI zs) ndt (pm.mem_iff.mpr hf)]
    · show _ + ((if f.2.1 ∈ zs then (1 : Int) else 0) - if f.2.2 ∈ zs then 1 else 0) = _
      unfold inB
      omega
    · by_cases h1 : e.1 = f.1
      · rw [if_pos (List.mem_append_right _ (List.mem_singleton.mpr h1)), if_neg (by rw [h1]; exact hn), if_pos h1]
        omega
      · rw [if_neg h1]
        by_cases h2 : e.1 ∈ w
        · rw [if_pos (List.mem_append_left _ h2), if_pos h2]; omega
        · rw [if_neg (fun z => (List.mem_append.mp z).elim h2 fun z => h1 (List.mem_singleton.mp z)), if_neg h2]; omega
theorem bsum_cons (w : List Str) (a : Nat) (was : List (List Str × Nat)) (n : Str) : bsum ((w, a) :: was) n = (if n ∈ w then a else 0) + bsum was n := by
  unfold bsum
  by_cases h : n ∈ w
  · rw [List.filter_cons_of_pos (by simpa using h), if_pos h]
    rfl
  · rw [List.filter_cons_of_neg (by simpa using h), if_neg h]
    omega
theorem flow_sharing {es ts : List Ent} {s t : Str} (h : NetOk es s t 8) (pm : ts.Perm es) (zs : List Str) : ∀ was : List (List Str × Nat), (∀ p ∈ was, Wk es s p.1 t) → flowI (fun e => ((bsum was e.1 : Nat) : Int) * sideI zs e) ts = (inB zs s - inB zs t) * (((was.map (·.2)).sum : Nat) : Int)
  | [], _ => by
    rw [flowI_congr (g := fun _ => 0) (fun e _ => by show ((0 : Nat) : Int) * _ = 0; omega), flowI_zero]
    show (0 : Int) = (inB zs s - inB zs t) * ((0 : Nat) : Int)
    rw [Int.natCast_zero, Int.mul_zero]
  | (w, a) :: was, hw => by
    have ih := flow_sharing h pm zs was fun p hp => hw p (List.mem_cons_of_mem _ hp)
    have k := flow_walk h pm zs (hw (w, a) List.mem_cons_self)
    rw [flowI_congr (g := fun e => (a : Int) * (if e.1 ∈ w then sideI zs e else 0) + ((bsum was e.1 : Nat) : Int) * sideI zs e) (fun e _ => ?_), flowI_add, flowI_mul, k, ih]
    · show (a : Int) * (inB zs s - inB zs t) + (inB zs s - inB zs t) * (((was.map (·.2)).sum : Nat) : Int) = (inB zs s - inB zs t) * (((a + (was.map (·.2)).sum : Nat)) : Int)
      push_cast
      rw [Int.mul_add, Int.mul_comm (a : Int)]
    · rw [bsum_cons]
      by_cases h1 : e.1 ∈ w
      · rw [if_pos h1, if_pos h1]; push_cast; rw [Int.add_mul]
      · rw [if_neg h1, if_neg h1, Nat.zero_add, Int.mul_zero, Int.zero_add]

/-! ### both answers agree -/
theorem vq_mul_int (t k b : Int) : vq (t * k) b = vq t b * (k : Rat) := by
  unfold vq
  push_cast
  grind
theorem vq_plus (t k b : Int) : vq (t + k) b = vq t b + vq k b := by
  unfold vq
  push_cast
  grind
theorem vq_nil (b : Int) : vq 0 b = 0 := by
  unfold vq
  push_cast
  grind
theorem sideR_int (zs : List Str) (e : Ent) : sideR zs e = ((sideI zs e : Int) : Rat) := by
  unfold sideR sideI
  by_cases h1 : e.2.1 ∈ zs <;> by_cases h2 : e.2.2 ∈ zs <;> simp [h1, h2] <;> grind
theorem flow_vq {f : Ent → Rat} {g : Ent → Int} {b : Int} : ∀ {l : List Ent}, (∀ e ∈ l, f e = vq (g e) b) → flow f l = vq (flowI g l) b
  | [], _ => (vq_nil b).symm
  | e :: l, h => by
    show f e + flow f l = vq (g e + flowI g l) b
    rw [vq_plus, h e List.mem_cons_self, flow_vq fun x hx => h x (List.mem_cons_of_mem _ hx)]
theorem find_congr {α : Type} {p q : α → Bool} : ∀ {l : List α}, (∀ x ∈ l, p x = q x) → l.find? p = l.find? q
  | [], _ => rfl
  | x :: l, h => by
    have h1 := h x List.mem_cons_self
    have h2 := find_congr fun y hy => h y (List.mem_cons_of_mem _ hy)
    by_cases hx : p x = true
    · rw [List.find?_cons_of_pos hx, List.find?_cons_of_pos (by rw [← h1]; exact hx)]
    · rw [List.find?_cons_of_neg hx, List.find?_cons_of_neg (by rw [← h1]; exact hx), h2]
theorem ans_eq {es ts : List Ent} {ps zs : List Str} {bs : Tab Int} {hs : Tab Rat} {b : Int} (hp : ∀ z, z ∈ ps ↔ z ∈ known es) (hn : ∀ n ∈ names ts, (n ∈ nms hs ↔ n ∈ nms bs) ∧ lv hs n = vq (lvI bs n) b) : cutAns ts ps zs hs = dueAns ts (known es) zs bs b := by
  have hf : flow (fun e => sideR zs e * lv hs e.1) ts = vq (flowI (fun e => lvI bs e.1 * sideI zs e) ts) b := flow_vq fun e he => by
    rw [(hn e.1 (List.mem_map_of_mem (f := (·.1)) he)).2, sideR_int, vq_mul_int]
    grind
  unfold cutAns dueAns missing
  rw [find_congr (l := zs) (q := fun z => !decide (z ∈ known es)) (fun z _ => by rw [decide_eq_decide.mpr (hp z)]), find_congr (l := names ts) (q := fun n => !decide (n ∈ nms bs)) (fun n h => by rw [decide_eq_decide.mpr (hn n h).1]), hf]
  all_goals (cases zs.find? (fun z => !decide (z ∈ known es)) <;> first | rfl | (cases (names ts).find? (fun n => !decide (n ∈ nms bs)) <;> rfl))
theorem fnd_rat (bs : Tab Int) (b : Int) (n : Str) : fnd (ratT bs b) n = (fnd bs n).map fun x => vq x b := by
  unfold fnd ratT
  induction bs with
  | nil => rfl
  | cons e r ih =>
    rw [List.map_cons]
    by_cases h : e.1 = n
    · rw [List.find?_cons_of_pos (by simpa using h), List.find?_cons_of_pos (by simpa using h)]
      rfl
    · rw [List.find?_cons_of_neg (by simpa using h), List.find?_cons_of_neg (by simpa using h)]
      exact ih
theorem lv_rat (bs : Tab Int) (b : Int) (n : Str) : lv (ratT bs b) n = vq (lvI bs n) b := by
  unfold lv lvI
  rw [fnd_rat]
  cases fnd bs n with
  | none => exact (vq_nil b).symm
  | some x => rfl
theorem fnd_put {es : Tab Rat} {m n : Str} {x : Rat} (h : n ≠ m) : fnd (put es m x) n = fnd es n := by
  unfold put fnd
  by_cases hm : m ∈ nms es
  · rw [if_pos hm]
    clear hm
    induction es with
    | nil => rfl
    | cons e r ih =>
      rw [List.map_cons]
      by_cases h1 : e.1 = m
      · rw [if_pos h1, List.find?_cons_of_neg (by simpa using fun z => h (z.symm.trans h1)), List.find?_cons_of_neg (by simpa using fun z => h (z.symm.trans h1))]
        exact ih
      · rw [if_neg h1]
        by_cases h2 : e.1 = n
        · rw [List.find?_cons_of_pos (by simpa using h2), List.find?_cons_of_pos (by simpa using h2)]
        · rw [List.find?_cons_of_neg (by simpa using h2), List.find?_cons_of_neg (by simpa using h2)]
          exact ih
  · rw [if_neg hm, List.find?_append]
    have : List.find? (fun e : Str × Rat => decide (e.1 = n)) [(m, x)] = none := List.find?_cons_of_neg (by simpa using fun z => h z.symm)
    rw [this, Option.or_none]
theorem mem_nms {α : Type} {es : Tab α} {n : Str} : n ∈ nms es ↔ (fnd es n).isSome = true := by
  rw [fnd_isSome, decide_eq_true_eq]
theorem ans_aaa {es ts : List Ent} {ps zs : List Str} {bs : Tab Int} {b : Int} (hp : ∀ z, z ∈ ps ↔ z ∈ known es) (ha : ("aaa" : Str) ∉ names ts) : cutAns ts ps zs (put (ratT bs b) "aaa" 9) = dueAns ts (known es) zs bs b := by
  refine ans_eq hp fun n hn => ?_
  have ne : n ≠ "aaa" := fun z => ha (by rw [← z]; exact hn)
  have hf := fnd_put (es := ratT bs b) (x := 9) ne
  refine ⟨?_, ?_⟩
  · rw [mem_nms, hf, fnd_rat, mem_nms]
    cases fnd bs n <;> simp
  · have : lv (put (ratT bs b) "aaa" 9) n = lv (ratT bs b) n := by unfold lv; rw [hf]
    rw [this, lv_rat]
theorem ans_rat {es ts : List Ent} {ps zs : List Str} {bs : Tab Int} {b : Int} (hp : ∀ z, z ∈ ps ↔ z ∈ known es) : cutAns ts ps zs (ratT bs b) = dueAns ts (known es) zs bs b :=
  ans_eq hp fun n _ => ⟨by rw [mem_nms, fnd_rat, mem_nms]; cases fnd bs n <;> simp, lv_rat bs b n⟩
theorem mem_known {es : List Ent} {z : Str} : z ∈ known es ↔ ∃ e ∈ es, e.2.1 = z ∨ e.2.2 = z := by
  unfold known
  rw [List.mem_append, List.mem_map, List.mem_map]
  constructor
  · rintro (⟨e, he, h⟩ | ⟨e, he, h⟩)
    · exact ⟨e, he, .inl h⟩
    · exact ⟨e, he, .inr h⟩
  · rintro ⟨e, he, h | h⟩
    · exact .inl ⟨e, he, h⟩
    · exact .inr ⟨e, he, h⟩
theorem ends_known {es ts : List Ent} (pm : ts.Perm es) {z : Str} : z ∈ endsOf ts ↔ z ∈ known es := by
  rw [mem_known]
  unfold endsOf
  rw [List.mem_flatMap]
  constructor
  · rintro ⟨e, he, h⟩
    rcases List.mem_cons.mp h with h | h
    · exact ⟨e, pm.mem_iff.mp he, .inl h.symm⟩
    · exact ⟨e, pm.mem_iff.mp he, .inr (List.mem_singleton.mp h).symm⟩
  · rintro ⟨e, he, h | h⟩
    · exact ⟨e, pm.mem_iff.mpr he, by rw [← h]; exact List.mem_cons_self⟩
    · exact ⟨e, pm.mem_iff.mpr he, by rw [← h]; exact List.mem_cons_of_mem _ List.mem_cons_self⟩
theorem NetOk.s_known {es : List Ent} {s t : Str} {mo : Nat} (h : NetOk es s t mo) : s ∈ known es := by
  obtain ⟨e, he⟩ := List.exists_mem_of_length_pos (show 0 < es.length from h.few)
  rcases (h.use e he).1 with q | q
  · exact mem_known.mpr ⟨e, he, .inl q⟩
  · obtain ⟨f, hf, e1⟩ := q.first
    exact mem_known.mpr ⟨f, hf, .inl e1⟩
theorem NetOk.t_known {es : List Ent} {s t : Str} {mo : Nat} (h : NetOk es s t mo) : t ∈ known es := by
  obtain ⟨e, he⟩ := List.exists_mem_of_length_pos (show 0 < es.length from h.few)
  rcases (h.use e he).2 with q | q
  · exact mem_known.mpr ⟨e, he, .inr q⟩
  · obtain ⟨f, hf, e1⟩ := q.last
    exact mem_known.mpr ⟨f, hf, .inr e1⟩
theorem places_known {es ts : List Ent} {s t : Str} {ps : List Str} {mo : Nat} (h : NetOk es s t mo) (pm : ts.Perm es) (hp : Places ts s t ps) (z : Str) : z ∈ ps ↔ z ∈ known es := by
  obtain ⟨ys, rfl, _, _, hm⟩ := hp
  constructor
  · intro hz
    rcases List.mem_cons.mp hz with e | hz
    · rw [e]; exact h.s_known
    · rcases List.mem_append.mp hz with hz | hz
      · exact (ends_known pm).mp ((hm z).mp hz).1
      · rw [List.mem_singleton.mp hz]; exact h.t_known
  · intro hz
    by_cases e1 : z = s
    · rw [e1]; exact List.mem_cons_self
    · by_cases e2 : z = t
      · rw [e2]; exact List.mem_cons_of_mem _ (List.mem_append_right _ (List.mem_singleton.mpr rfl))
      · exact List.mem_cons_of_mem _ (List.mem_append_left _ ((hm z).mpr ⟨(ends_known pm).mpr hz, e1, e2⟩))
/-- the sharing's own load -/
theorem ans_sharing {es ts : List Ent} {s t : Str} {zs : List Str} (h : NetOk es s t 8) (pm : ts.Perm es) (was : List (List Str × Nat)) (hw : ∀ p ∈ was, Wk es s p.1 t) (hk : ∀ z ∈ zs, z ∈ known es) (hs : s ∈ zs) (ht : t ∉ zs) (b : Int) : dueAns ts (known es) zs (borneT es was) b = .inr (vq (((was.map (·.2)).sum : Nat) : Int) b) := by
  have h1 : zs.find? (fun z => !decide (z ∈ known es)) = none := by
    rw [List.find?_eq_none]
    intro z hz
    rw [decide_eq_true (hk z hz)]
    decide
  have pn : (names ts).Perm (names es) := pm.map fun e : Ent => e.1
  have h2 : (names ts).find? (fun n => !decide (n ∈ nms (borneT es was))) = none := by
    rw [List.find?_eq_none]
    intro n hn
    rw [nms_borne, decide_eq_true (pn.mem_iff.mp hn)]
    decide
  unfold dueAns
  rw [h1, h2]
  have hf : ∀ e ∈ ts, lvI (borneT es was) e.1 = ((bsum was e.1 : Nat) : Int) := fun e he => by
    have hm : (e.1, ((bsum was e.1 : Nat) : Int)) ∈ borneT es was := List.mem_map.mpr ⟨e, pm.mem_iff.mp he, rfl⟩
    unfold lvI
    rw [fnd_mem (by rw [nms_borne]; exact h.nd) hm]
    rfl
  have e1 := flow_sharing h pm zs was hw
  rw [flowI_congr (g := fun e => ((bsum was e.1 : Nat) : Int) * sideI zs e) (fun e he => by rw [hf e he]), e1]
  unfold inB
  rw [if_pos hs, if_neg ht]
  show Sum.inr (vq ((1 - 0) * _) b) = _
  rw [show ((1 : Int) - 0) = 1 from rfl, Int.one_mul]
theorem bsum_le : ∀ (was : List (List Str × Nat)) (n : Str), bsum was n ≤ (was.map (·.2)).sum
  | [], n => Nat.le_refl _
  | (w, a) :: was, n => by
    rw [bsum_cons]
    have := bsum_le was n
    show (if n ∈ w then a else 0) + bsum was n ≤ a + (was.map (·.2)).sum
    by_cases h : n ∈ w
    · rw [if_pos h]; omega
    · rw [if_neg h]; omega
/-! ### what is told is the same -/
theorem tol_dtup {K : PySem.W.Frag} {RC : Addr} {H : Hp} {T T' : Addr} {r : Str ⊕ Rat} {k k' : Nat} (h : TolAt RC H T r k) (h' : TolAt RC H T' r k') : DTup K (fun x y H => DFlat x y H ∨ DIns RC (REq RC) x y H) (.ref T) (.ref T') H := by
  have fl : ∀ z : Str, DFlat (.str z) (.str z) H := fun z => ⟨rfl, rfl, by show (z == z) = true; simp⟩
  cases r with
  | inl z => exact ⟨T, T', _, _, rfl, rfl, SqT.of h, SqT.of h', .cons (.inl (fl _)) (.cons (.inl (fl _)) .nil)⟩
  | inr x =>
    obtain ⟨q, e, t, b, ra, l, v, _⟩ := h
    obtain ⟨q', e', t', b', ra', l', v', _⟩ := h'
    obtain ⟨rfl, rfl⟩ := low_unique l l' (v.trans v'.symm)
    obtain ⟨dx, hx⟩ := id ra
    obtain ⟨dy, hy⟩ := id ra'
    exact ⟨T, T', _, _, rfl, rfl, SqT.of e, SqT.of e', .cons (.inl (fl _)) (.cons (.inr ⟨q, q', dx, dy, _, _, rfl, rfl, hx, hy, t, b, ra, ra'⟩) .nil)⟩
theorem borne_small {es : List Ent} {was : List (List Str × Nat)} (h : (was.map (·.2)).sum ≤ 36) : ∀ e ∈ borneT es was, e.2.natAbs < 2 ^ 6 := fun e he => by
  obtain ⟨f, _, rfl⟩ := List.mem_map.mp he
  have := bsum_le was f.1
  show ((bsum was f.1 : Nat) : Int).natAbs < 2 ^ 6
  omega
theorem nms_put {α : Type} {es : Tab α} {n : Str} {x : α} (h : n ∈ nms es) : nms (put es n x) = nms es := by
  unfold put
  rw [if_pos h]
  unfold nms
  rw [List.map_map]
  refine List.map_congr_left fun q _ => ?_
  show (if q.1 = n then (q.1, x) else q).1 = q.1
  by_cases e : q.1 = n
  · rw [if_pos e]
  · rw [if_neg e]
theorem put_mem {α : Type} {es : Tab α} {n : Str} {x : α} {e : Str × α} (h : e ∈ put es n x) : e ∈ es ∨ e.2 = x := by
  unfold put at h
  by_cases hn : n ∈ nms es
  · rw [if_pos hn] at h
    obtain ⟨f, hf, rfl⟩ := List.mem_map.mp h
    by_cases e : f.1 = n
    · rw [if_pos e]; exact .inr rfl
    · rw [if_neg e]; exact .inl hf
  · rw [if_neg hn] at h
    rcases List.mem_append.mp h with h | h
    · exact .inl h
    · rw [List.mem_singleton.mp h]; exact .inr rfl
theorem tab_len {α : Type} {es : Tab α} {fs : List Ent} (h : nms es = names fs) : es.length = fs.length := by
  have := congrArg List.length h
  unfold nms names at this
  rw [List.length_map, List.length_map] at this
  exact this
theorem atI_last {α : Type} {xs : List α} {v : α} (h : xs[xs.length - 1]? = some v) : atI xs (-1) = some v := by
  have hl := (List.getElem?_eq_some_iff.mp h).1
  unfold atI ixN
  rw [if_neg (by decide), if_pos (by omega)]
  show xs[((-1 : Int) + (xs.length : Int)).toNat]? = some v
  rw [show ((-1 : Int) + (xs.length : Int)).toNat = xs.length - 1 by omega]
  exact h
theorem ins_txt (zs : List Str) (i : Int) (z : Str) : List.take i.toNat (zs.map V.str) ++ [V.str z] ++ List.drop i.toNat (zs.map V.str) = (zs.take i.toNat ++ [z] ++ zs.drop i.toNat).map V.str := by
  rw [List.map_append, List.map_append, List.map_take, List.map_drop]
  rfl
theorem pick4 {w1 w2 w3 w4 : Str} {r : Int} (h0 : 0 ≤ r) (h1 : r < 4) : ∃ z : Str, atI [V.str w1, .str w2, .str w3, .str w4] r = some (V.str z) := by
  have : r = 0 ∨ r = 1 ∨ r = 2 ∨ r = 3 := by omega
  rcases this with rfl | rfl | rfl | rfl
  · exact ⟨w1, rfl⟩
  · exact ⟨w2, rfl⟩
  · exact ⟨w3, rfl⟩
  · exact ⟨w4, rfl⟩
section
variable {K : PySem.W.Frag}
theorem eqv_nv {RC : Addr} {H : Hp} {v : V} {x : Rat} {n : Nat} (h : NV RC H v x n) : EqV K H v v := by
  obtain ⟨t, b, nm, _⟩ := h
  rcases nm with ⟨e, _⟩ | ⟨p, e, _⟩
  · rw [e]
    exact .data (.int _) (.int _) rfl rfl (SeqAt.eqv_refl _ rfl)
  · rw [e]
    exact .same p
/-- a copy of a dict of numbers -/
theorem same_dN {RC : Addr} {H : Hp} {a b : Addr} {ks : List (Key × V)} {es : Tab Rat} {n : Nat} (ea : H a = some (.dK ks)) (eb : H b = some (.dK ks)) (hne : a ≠ b) (p : Paired (EntG fun v x => NV RC H v x n) ks es) (nd : (nms es).Nodup) : SameD K H (.ref a) (.ref b) := by
  refine ⟨a, b, ks, rfl, rfl, hne, ea, eb, keys_nodup p nd, fun q hq => ?_⟩
  obtain ⟨i, hi, ei⟩ := List.getElem_of_mem hq
  obtain ⟨e, _, _, h2⟩ := pair_at p (i := i) (x := q) (by rw [List.getElem?_eq_getElem hi, ei])
  exact eqv_nv h2
theorem DictN.here {RC : Addr} {H : Hp} {a : Addr} {es : Tab Rat} {n : Nat} {ks : List (Key × V)} (d : DictN RC H a es n) (e : H a = some (.dK ks)) : Paired (EntG fun v x => NV RC H v x n) ks es := by
  obtain ⟨ls, e2, p⟩ := d
  rw [e] at e2
  injection e2 with e2
  injection e2 with e2
  rw [e2]
  exact p
end
theorem DictN.lput {RC : Addr} {H : Hp} {A a : Addr} {xs : List V} {o : HO} {es : Tab Rat} {n : Nat} (hA : H A = some (.lst xs)) (d : DictN RC H a es n) : DictN RC (upd H A o) a es n := by
  obtain ⟨ks, e, p⟩ := d
  exact ⟨ks, by rw [upd_ne (fun z => by rw [z, hA] at e; cases e)]; exact e, paired_on (fun _ _ ⟨g1, g2⟩ => ⟨g1, g2.kp hA (fun _ _ _ z => nomatch z) fun c o hc h => by rw [upd_ne hc]; exact h⟩) p⟩
theorem DictI.lput {H : Hp} {A a : Addr} {xs : List V} {o : HO} {es : Tab Int} (hA : H A = some (.lst xs)) (d : DictI H a es) : DictI (upd H A o) a es := by
  obtain ⟨ks, e, p⟩ := d
  exact ⟨ks, by rw [upd_ne (fun z => by rw [z, hA] at e; cases e)]; exact e, p⟩

/-! ### a right network is made -/
theorem net_fine {K : PySem.W.Frag} {C : Addr} {D : Errs} {H : Hp} {Q : VK} {E : XK} {n dx a : Addr} {es : List Ent} {s t : Str} (hn : H n = some (.ins C dx [])) (hr : Rows K H a es) (nok : NetOk es s t 8) (h10 : es.length ≤ 10)
    (k : ∀ ts ps H', ts.Perm es → PyProof.Rows.sortedS (names ts) = true → Places ts s t ps → (∀ c o, c ≠ n → H c = some o → H' c = some o) → NetAt C H' n s t ts ps → (∀ Hx : Hp, (∀ c o, (∀ xs, o ≠ .lst xs) → H' c = some o → Hx c = some o) → (∀ c o, H c = none → H' c = some o → Hx c = some o) → NetAt C Hx n s t ts ps) → Q .non H') : spNet K C D [.ref n, .ref a, .str s, .str t] H Q E := by
  refine ⟨n, dx, a, es, s, t, rfl, hn, hr, by omega, fun e he => (nok.ok e he).2, nok.hs.2, nok.ht.2, fun x hx => ?_, fun _ ts hp hs => ⟨fun x hx => ?_, fun _ ps hps => ⟨fun h8 => ?_, fun _ H' kp hN hV => k ts ps H' hp hs hps kp hN hV⟩⟩⟩
  · rw [nok.early h10] at hx; cases hx
  · rw [(nok.perm hp).late] at hx; cases hx
  · exact absurd ((nok.perm hp).eight hps) (by omega)
section
variable {K : PySem.W.Frag}
/-- a network made while the script's state stands by -/
theorem net_step {C : Addr} {D : Errs} {G H : Hp} {st : Addr} {m : Nat} {Q : VK} {E : XK} {n dx a : Addr} {es : List Ent} {s t : Str} (d : DSt G H st m) (hr : RowsL G a es) (nok : NetOk es s t 8) (h10 : es.length ≤ 10) (nb : H n = none) (ndx : H dx = none) (ne : dx ≠ n)
    (k : ∀ ts ps G' H', ts.Perm es → PyProof.Rows.sortedS (names ts) = true → Places ts s t ps → Same G G' → DSt G' H' st m → NetAt C G' n s t ts ps → (∀ q xs ys, H q = some (.lst xs) → NetAt C (upd G' q (.lst ys)) n s t ts ps) → Q .non H') : spNet K C D [.ref n, .ref a, .str s, .str t] (upd (upd H dx (.own n)) n (.ins C dx [])) Q E := by
  have sm : Same H (upd (upd H dx (.own n)) n (.ins C dx [])) := (same_upd ndx).trans (same_upd (by rw [upd_ne (Ne.symm ne)]; exact nb))
  refine net_fine upd_same ((hr.on d.same).on sm).rows nok h10 fun ts ps H4 hp hs hps kp _ hV => ?_
  have s34 : Same H H4 := fun c o hc => kp c o (fun z => by rw [z, nb] at hc; cases hc) (sm _ _ hc)
  obtain ⟨G4, sG, d4, al, al2⟩ := d.all s34
  have old : ∀ {c : Addr}, (upd (upd H dx (.own n)) n (.ins C dx [])) c = none → H c = none := fun {c} hc => by
    cases e : H c with
    | none => rfl
    | some o => rw [sm _ _ e] at hc; cases hc
  refine k ts ps G4 H4 hp hs hps sG d4 (hV G4 al2 fun c o hc h => al c o (old hc) h) fun q xs ys hq => hV _ (fun c o ho h => ?_) fun c o hc h => ?_
  · rw [upd_ne (fun z => by rw [z, s34 _ _ hq] at h; exact ho _ (Option.some.inj h).symm)]
    exact al2 _ _ ho h
  · rw [upd_ne (fun z => by rw [z] at hc; rw [old hc] at hq; cases hq)]
    exact al _ _ (old hc) h
end

/-! ### the law -/
section
variable {P : Program} {w : World} {K : PySem.W.Frag} {mg : Str → Option Value} {base : Heap}
def spLaw (K : PySem.W.Frag) : Sp := fun vs H Q _ => ∃ (a : Addr) (ns : List Int), vs = [.ref a] ∧ SqL K H a (ns.map V.int) ∧ ns.length ≤ 63 ∧ ∀ H', Q (.bl true) H'
set_option maxHeartbeats 4000000 in
theorem ok_law {f : Addr} {fd : FuncData} (T : Txt K mg) (F : Fun K "law" "law" s_law f fd) : FnOk P w K mg base CX0 9 f fd ["_law_script"] (spLaw K) := by
  have G_start : FnOk P w K mg base CX0 1 T.f_start T.d_start ["_law_script"] (spStart K) := ok_start T
  have G_take : FnOk P w K mg base CX0 1 T.f_take T.d_take ["_law_state", "_law_limit"] spTake := ok_take T
  have G_network := ok_netw (P := P) (w := w) (base := base) T
  have G_ways := ok_ways (P := P) (w := w) (base := base) T
  have G_amounts := ok_amounts (P := P) (w := w) (base := base) T
  have G_loads := ok_loads (P := P) (w := w) (base := base) T
  have G_ratios := ok_ratios (P := P) (w := w) (base := base) T
  have G_told := ok_told (P := P) (w := w) (base := base) T
  have G_due := ok_due (P := P) (w := w) (base := base) T
  have G_Ratio_init : FnOk P w K mg base CX0 1 T.f_Ratio_init T.d_Ratio_init ["self", "top", "bottom"] (spInit T.f_Ratio) := ok_init T
  have GE_Ratio_eq := ok_eq (P := P) (w := w) (base := base) T
  have G_Network_init := calm_of (ok_net (P := P) (w := w) (base := base) T)
  have z2 : 2 ≤ sizeLine := by decide
  have z1 : 1 ≤ sizeLine := by decide
  refine F.ok sc_law (fun vs H Q E h => ?_) (fun cdv A outer s0 H vs Q E hr h => ?_)
  · obtain ⟨S, ns, rfl, _⟩ := h
    rfl
  · obtain ⟨S, ns, rfl, hS, hns, k⟩ := h
    refine ⟨_, (C8.pss_cut (ps_set (i := 1) sc_law.nd rfl (Or.inr rfl) (pe_call G_start (hr.mono (by decide)) rfl T.m_start T.F_start.kp T.b_start .nil pass0 (pa_cons (pv 0) pa_nil)))
    (pss_cons (ps_asg (pe_call G_network (hr.mono (by decide)) rfl T.m_network T.F_network.kp T.b_network .nil pass0 (pa_cons (pv 1) (pa_cons (pe_call G_take (hr.mono (by decide)) rfl T.m_take T.F_take.kp T.b_take .nil pass0 (pa_cons (pv 1) (pa_cons pe_int pa_nil))) pa_nil))) (pg_tup rfl (pgs_cons (pg_name (i := 2) sc_law.nd rfl (Or.inl rfl)) (pgs_cons (pg_name (i := 3) sc_law.nd rfl (Or.inl rfl)) (pgs_cons (pg_name (i := 4) sc_law.nd rfl (Or.inr rfl)) pgs_nil)))))
    (pss_cons (ps_set (i := 5) sc_law.nd rfl (Or.inl rfl) (pe_call G_ways (hr.mono (by decide)) rfl T.m_ways T.F_ways.kp T.b_ways .nil pass0 (pa_cons (pv 2) (pa_cons (pv 3) (pa_cons (pv 4) pa_nil)))))
    (pss_cons (ps_set (i := 6) sc_law.nd rfl (Or.inl rfl) (pe_make T.mk_Network G_Network_init (hr.mono (by decide)) rfl T.m_Network T.b_Network_init .nil pass0 (pa_cons (pv 2) (pa_cons (pv 3) (pa_cons (pv 4) pa_nil)))))
    (pss_cons (ps_set (i := 7) sc_law.nd rfl (Or.inl rfl) (pe_call G_amounts (hr.mono (by decide)) rfl T.m_amounts T.F_amounts.kp T.b_amounts .nil pass0 (pa_cons (pv 1) (pa_cons (pv 5) (pa_cons pe_int pa_nil)))))
    (pss_cons (ps_set (i := 8) sc_law.nd rfl (Or.inl rfl) (pe_call G_loads (hr.mono (by decide)) rfl T.m_loads T.F_loads.kp T.b_loads .nil pass0 (pa_cons (pv 2) (pa_cons (pv 5) (pa_cons (pv 7) pa_nil)))))
    (pss_cons (ps_set (i := 9) sc_law.nd rfl (Or.inl rfl) (pe_ix ix_list (pe_lst (pa_cons pe_int (pa_cons pe_int (pa_cons pe_int (pa_cons pe_int pa_nil))))) (pe_call G_take (hr.mono (by decide)) rfl T.m_take T.F_take.kp T.b_take .nil pass0 (pa_cons (pv 1) (pa_cons pe_int pa_nil))) (fun _ _ => rfl)))
    (pss_cons (ps_set (i := 10) sc_law.nd rfl (Or.inr rfl) (pe_op op_cat (pe_lc (own := [("_law_link", 22)]) (g := gName 22) (tt := tYes) rfl sc_law.nd (pi_list (pv 2)) (blkOk_by (N := ["_law_script", "_law_state", "_law_links", "_law_start_here", "_law_end", "_law_ways_here", "_law_net", "_law_amounts_here", "_law_borne", "_law_bottom", "_law_known", "_law_spots", "_law_with_start", "_law_told_here", "_law_name", "_law_tail", "_law_head", "_law_handed", "_law_kept", "_law_given", "_law_due_here", "_law_k", "_law_link", "_law_place"]) (sc := defScope s_law) (by decide +kernel)) (fun _ _ _ _ _ => pg_name (i := 22) sc_law.nd rfl (Or.inl rfl)) (fun _ _ _ _ _ => pts_nil) (fun _ _ _ _ _ => (pe_ix (show IxR _ (rIxT K) from ix_tup) (pv 22) pe_int (fun _ _ => rfl)))) (pe_lst (pa_cons (pv 4) pa_nil))))
    (C8.pss_cut (ps_setLc (i := 11) (own := [("_law_k", 21)]) (g := gName 21) (tt := tYes) rfl sc_law.nd rfl rfl (sw_true rfl rfl rfl (by decide +kernel)) (pi_range1 rfl T.n_range (pa_cons (pe_call G_take (hr.mono (by decide)) rfl T.m_take T.F_take.kp T.b_take .nil pass0 (pa_cons (pv 1) (pa_cons pe_int pa_nil))) pa_nil)) (blkOk_by (N := ["_law_script", "_law_state", "_law_links", "_law_start_here", "_law_end", "_law_ways_here", "_law_net", "_law_amounts_here", "_law_borne", "_law_bottom", "_law_known", "_law_spots", "_law_with_start", "_law_told_here", "_law_name", "_law_tail", "_law_head", "_law_handed", "_law_kept", "_law_given", "_law_due_here", "_law_k", "_law_link", "_law_place"]) (sc := defScope s_law) (by decide +kernel)) (fun _ _ _ _ _ => pg_name (i := 21) sc_law.nd rfl (Or.inl rfl)) (fun _ _ _ _ _ => pts_nil) (fun _ _ _ _ _ => (pe_ix (show IxR _ (rIxL K) from ix_list) (pv 10) (pe_call G_take (hr.mono (by decide)) rfl T.m_take T.F_take.kp T.b_take .nil pass0 (pa_cons (pv 1) (pa_cons (pe_callB (show CallR _ _ (rLenS K) from call_len_seq) (by rfl) T.n_len (by decide +kernel) (pa_cons (pv 10) pa_nil)) pa_nil))) (fun _ _ => rfl))))
    (pss_cons (ps_set (i := 12) sc_law.nd rfl (Or.inl rfl) (pe_op op_cat (pe_lc (own := [("_law_place", 23)]) (g := gName 23) rfl sc_law.nd (pi_list (pv 11)) (blkOk_by (N := ["_law_script", "_law_state", "_law_links", "_law_start_here", "_law_end", "_law_ways_here", "_law_net", "_law_amounts_here", "_law_borne", "_law_bottom", "_law_known", "_law_spots", "_law_with_start", "_law_told_here", "_law_name", "_law_tail", "_law_head", "_law_handed", "_law_kept", "_law_given", "_law_due_here", "_law_k", "_law_link", "_law_place"]) (sc := defScope s_law) (by decide +kernel)) (fun _ _ _ _ _ => pg_name (i := 23) sc_law.nd rfl (Or.inl rfl)) (fun _ _ _ _ _ => pts_one (pt_cmpR op_ne (pv 23) (pv 4) (nomark _))) (fun _ _ _ _ _ => (pv 23))) (pe_lst (pa_cons (pv 3) pa_nil))))
    (pss_cons (ps_set (i := 13) sc_law.nd rfl (Or.inl rfl) (pe_call G_told (hr.mono (by decide)) rfl T.m_told T.F_told.kp T.b_told .nil pass0 (pa_cons (pv 6) (pa_cons (pe_call G_ratios (hr.mono (by decide)) rfl T.m_ratios T.F_ratios.kp T.b_ratios .nil pass0 (pa_cons (pv 8) (pa_cons (pv 9) pa_nil))) (pa_cons (pv 12) pa_nil)))))
    (C8.pss_cut (ps_if (pt_cmpR (op_neG (Mon.or mon_flat (mon_ins mon_REq)) (EqG.or (EqG.mono eqG_flat (Nat.zero_le _)) (RcG.eqG (rcG_ins (R := REq T.f_Ratio) GE_Ratio_eq T.a_Ratio_eq T.i_Ratio_eq T.b_Ratio_eq pass0) ins_ref)) (hr.mono (by decide))) (pv 13) (pe_tup (pa_cons pe_str (pa_cons (pe_make T.mk_Ratio G_Ratio_init (hr.mono (by decide)) rfl T.m_Ratio T.b2_Ratio_init T.v2_Ratio_init pass0 (pa_cons (pe_callB (cr_sum rfl) (by rfl) T.n_sum (by decide +kernel) (pa_cons (pv 7) pa_nil)) (pa_cons (pv 9) pa_nil))) pa_nil))) (nomark _))
      (pss_one (ps_ret pe_bl))
      pss_nil)
    (C8.pss_cut (ps_if (pt_cmpR op_eq (pe_call G_take (hr.mono (by decide)) rfl T.m_take T.F_take.kp T.b_take .nil pass0 (pa_cons (pv 1) (pa_cons pe_int pa_nil))) pe_int (nomark _))
      (pss_one (ps_for PassesOwn.never rfl (pi_list (pv 2)) (pg_tup rfl (pgs_cons (pg_name (i := 14) sc_law.nd rfl (Or.inl rfl)) (pgs_cons (pg_name (i := 15) sc_law.nd rfl (Or.inl rfl)) (pgs_cons (pg_name (i := 16) sc_law.nd rfl (Or.inl rfl)) pgs_nil))))
      (pss_one (ps_asg (pe_op op_sub (pe_call G_take (hr.mono (by decide)) rfl T.m_take T.F_take.kp T.b_take .nil pass0 (pa_cons (pv 1) (pa_cons pe_int pa_nil))) pe_int) (pg_sub (pv 8) (pv 14) (set_dict (hu_of hr)))))))
      pss_nil)
    (C8.pss_cut (ps_if (pt_cmpR op_eq (pe_call G_take (hr.mono (by decide)) rfl T.m_take T.F_take.kp T.b_take .nil pass0 (pa_cons (pv 1) (pa_cons pe_int pa_nil))) pe_int (nomark _))
      (pss_cons (ps_expr (pe_bm PySem.F.plainAttrs_list PySem.F.slot_list_insert PySem.F.type_list_insert mt_insert (pv 11) (pa_cons (pe_call G_take (hr.mono (by decide)) rfl T.m_take T.F_take.kp T.b_take .nil pass0 (pa_cons (pv 1) (pa_cons (pe_op op_add (pe_callB call_len_seq (by rfl) T.n_len (by decide +kernel) (pa_cons (pv 11) pa_nil)) pe_int) pa_nil))) (pa_cons (pe_ix ix_list (pe_lst (pa_cons pe_str (pa_cons pe_str (pa_cons pe_str (pa_cons (pe_ix ix_tup (pe_ix ix_list (pv 2) pe_int (fun _ _ => rfl)) pe_int (fun _ _ => rfl)) pa_nil))))) (pe_call G_take (hr.mono (by decide)) rfl T.m_take T.F_take.kp T.b_take .nil pass0 (pa_cons (pv 1) (pa_cons pe_int pa_nil))) (fun _ _ => rfl)) pa_nil))))
    (pss_one (ps_expr (pe_bm PySem.F.plainAttrs_list PySem.F.slot_list_insert PySem.F.type_list_insert mt_insert (pv 11) (pa_cons (pe_call G_take (hr.mono (by decide)) rfl T.m_take T.F_take.kp T.b_take .nil pass0 (pa_cons (pv 1) (pa_cons (pe_op op_add (pe_callB call_len_seq (by rfl) T.n_len (by decide +kernel) (pa_cons (pv 11) pa_nil)) pe_int) pa_nil))) (pa_cons (pe_ix ix_list (pe_lst (pa_cons pe_str (pa_cons pe_str (pa_cons pe_str (pa_cons (pe_ix ix_tup (pe_ix ix_list (pv 2) (pe_un un_neg pe_int) (fun _ _ => rfl)) pe_int (fun _ _ => rfl)) pa_nil))))) (pe_call G_take (hr.mono (by decide)) rfl T.m_take T.F_take.kp T.b_take .nil pass0 (pa_cons (pv 1) (pa_cons pe_int pa_nil))) (fun _ _ => rfl)) pa_nil))))))
      pss_nil)
    (C8.pss_cut (ps_if (pt_cmpR op_eq (pe_call G_take (hr.mono (by decide)) rfl T.m_take T.F_take.kp T.b_take .nil pass0 (pa_cons (pv 1) (pa_cons pe_int pa_nil))) pe_int (nomark _))
      (pss_cons (ps_expr (pe_dpop1 (pv 8) (pe_ix ix_tup (pe_ix ix_list (pv 2) (pe_call G_take (hr.mono (by decide)) rfl T.m_take T.F_take.kp T.b_take .nil pass0 (pa_cons (pv 1) (pa_cons (pe_callB call_len_seq (by rfl) T.n_len (by decide +kernel) (pa_cons (pv 2) pa_nil)) pa_nil))) (fun _ _ => rfl)) pe_int (fun _ _ => rfl)) ⟨rfl, rfl, rfl, rfl⟩))
    (pss_one (ps_expr (pe_dpop2 (pv 8) (pe_ix ix_tup (pe_ix ix_list (pv 2) pe_int (fun _ _ => rfl)) pe_int (fun _ _ => rfl)) pe_int ⟨rfl, rfl, rfl, rfl⟩))))
      pss_nil)
    (pss_cons (ps_set (i := 17) sc_law.nd rfl (Or.inl rfl) (pe_call G_ratios (hr.mono (by decide)) rfl T.m_ratios T.F_ratios.kp T.b_ratios .nil pass0 (pa_cons (pv 8) (pa_cons (pv 9) pa_nil))))
    (C8.pss_cut (ps_if (pt_cmpR op_eq (pv 9) pe_int (nomark _))
      (pss_one (ps_set (i := 17) sc_law.nd rfl (Or.inl rfl) (pe_callTy call_dictD (by rfl) T.n_dict (by decide +kernel) (pa_cons (pv 8) pa_nil))))
      pss_nil)
    (pss_cons (ps_asg (pe_make T.mk_Ratio G_Ratio_init (hr.mono (by decide)) rfl T.m_Ratio T.b1_Ratio_init T.v1_Ratio_init pass0 (pa_cons pe_int pa_nil)) (pg_sub (pv 17) pe_str (set_dict (hu_of hr))))
    (pss_cons (ps_set (i := 18) sc_law.nd rfl (Or.inl rfl) (pe_callTy call_dictD (by rfl) T.n_dict (by decide +kernel) (pa_cons (pv 17) pa_nil)))
    (pss_cons (ps_set (i := 19) sc_law.nd rfl (Or.inl rfl) (pe_callTy call_list_of (by rfl) T.n_list (by decide +kernel) (pa_cons (pv 11) pa_nil)))
    (pss_cons (ps_set (i := 20) sc_law.nd rfl (Or.inl rfl) (pe_call G_due (hr.mono (by decide)) rfl T.m_due T.F_due.kp T.b_due .nil pass0 (pa_cons (pv 2) (pa_cons (pv 8) (pa_cons (pv 11) (pa_cons (pv 9) pa_nil))))))
    (pss_cons (ps_if (PW.pt (pw_or (pt_cmpR (op_neG (Mon.or mon_flat (mon_ins mon_REq)) (EqG.or (EqG.mono eqG_flat (Nat.zero_le _)) (RcG.eqG (rcG_ins (R := REq T.f_Ratio) GE_Ratio_eq T.a_Ratio_eq T.i_Ratio_eq T.b_Ratio_eq pass0) ins_ref)) (hr.mono (by decide))) (pe_call G_told (hr.mono (by decide)) rfl T.m_told T.F_told.kp T.b_told .nil pass0 (pa_cons (pv 6) (pa_cons (pv 17) (pa_cons (pv 19) pa_nil)))) (pv 20) (nomark _)) (pw_or (pt_cmpR (op_neSameW hr.units0) (pv 19) (pv 11) (nomark _)) (pw_or1 (pt_cmpR (op_neDS (room128 hr)) (pv 17) (pv 18) (nomark _))))))
      (pss_one (ps_ret pe_bl))
      pss_nil)
    (pss_cons (ps_if (PW.pt (pw_or (pt_cmpR (op_neG (Mon.or mon_flat (mon_ins mon_REq)) (EqG.or (EqG.mono eqG_flat (Nat.zero_le _)) (RcG.eqG (rcG_ins (R := REq T.f_Ratio) GE_Ratio_eq T.a_Ratio_eq T.i_Ratio_eq T.b_Ratio_eq pass0) ins_ref)) (hr.mono (by decide))) (pe_call G_told (hr.mono (by decide)) rfl T.m_told T.F_told.kp T.b_told .nil pass0 (pa_cons (pv 6) (pa_cons (pv 17) (pa_cons (pe_callTy call_tuple_of (by rfl) T.n_tuple (by decide +kernel) (pa_cons (pv 11) pa_nil)) pa_nil)))) (pv 20) (nomark _)) (pw_or1 (pt_cmpR (op_neDS (room128 hr)) (pv 17) (pv 18) (nomark _)))))
      (pss_one (ps_ret pe_bl))
      pss_nil)
    (pss_cons (ps_expr (pe_bm PySem.F.plainAttrs_list PySem.F.slot_list_append PySem.F.type_list_append mt_append (pv 19) (pa_cons (pv 4) pa_nil)))
    (pss_cons (ps_expr (pe_bm PySem.F.plainAttrs_list PySem.F.slot_list_append PySem.F.type_list_append mt_append (pv 11) (pa_cons (pv 4) pa_nil)))
    (pss_one (ps_ret (pe_cmpR (op_eqG (rcG_tup (Mon.or mon_flat (mon_ins mon_REq)) (EqG.or (EqG.mono eqG_flat (Nat.zero_le _)) (RcG.eqG (rcG_ins (R := REq T.f_Ratio) GE_Ratio_eq T.a_Ratio_eq T.i_Ratio_eq T.b_Ratio_eq pass0) ins_ref))) (hr.mono (by decide))) (pe_call G_told (hr.mono (by decide)) rfl T.m_told T.F_told.kp T.b_told .nil pass0 (pa_cons (pv 6) (pa_cons (pv 17) (pa_cons (pv 19) pa_nil)))) (pe_call G_due (hr.mono (by decide)) rfl T.m_due T.F_due.kp T.b_due .nil pass0 (pa_cons (pv 2) (pa_cons (pv 8) (pa_cons (pv 11) (pa_cons (pv 9) pa_nil))))) (nomark _))))))))))))))))))))))))))))), ?_⟩
    refine ⟨fun σ H' => ∃ st, σ = [some (.ref S), some (.ref st), none, none, none, none, none, none, none, none, none, none, none, none, none, none, none, none, none, none, none, none, none, none] ∧ DSt H H' st 0, ⟨_, rfl, S, ns, rfl, hS, hns, fun st H1 d1 => ⟨st, rfl, d1⟩⟩, ?_⟩
    rintro σ H1 ⟨st, rfl, d1⟩
    refine ⟨_, rfl, _, rfl, H, st, 0, 2, rfl, d1, by decide, by decide, by decide, fun r H2 r0 r1 d2 => ?_⟩
    obtain ⟨c, rfl⟩ := Int.eq_ofNat_of_zero_le r0
    refine ⟨H, st, _, c, rfl, d2, by decide, by omega, fun t0 l es a b G3 H3 s3 d3 et rows nok h10 hlw => ?_⟩
    refine ⟨t0, _, rfl, SqT.of (d3.same _ _ et), rfl, _, _, rfl, _, _, rfl, _, _, rfl, rfl, ?_⟩
    clear d1 d2 s3 et
    dsimp only [List.set_cons_zero, List.set_cons_succ]
    refine ⟨_, rfl, _, rfl, _, rfl, l, es, a, b, rfl, rows.on d3.same, bfs_small nok h10, fun w hw => ((bfs_walk nok.ne 8).2 w hw).2, fun W ws H4 s4 nW hW pw => ?_⟩
    obtain ⟨G4, sG4, d4, al, al2⟩ := d3.all s4
    have hWG : WaysL G4 W ws := by
      obtain ⟨qs, e1, e2⟩ := hW
      exact ⟨qs, al _ _ nW e1, paired_on (fun _ _ g => al2 _ _ (by intro xs z; cases z) g) e2⟩
    have rows := rows.on sG4
    have hwalk : ∀ w ∈ ws, Wk es a w b := fun w hw => ((bfs_walk nok.ne 8).2 w (pw.mem_iff.mp hw)).1
    have hw0 : 0 < ws.length := by
      rw [pw.length_eq]
      exact Nat.pos_of_ne_zero fun z => bfs_ways nok (List.length_eq_zero_iff.mp z)
    have hw24 : ws.length < 2 ^ 24 := by
      rw [pw.length_eq]
      exact (bfs_small nok h10 7 (by decide)).2
    clear d3 s4 sG4 al al2 nW hW pw
    refine ⟨_, rfl, _, rfl, _, rfl, fun n dn np ndp nep => ?_⟩
    refine net_step d4 rows nok h10 np ndp nep fun ts ps G5 H5 pm srt hpl sG5 d5 hN _ => ⟨rfl, ?_⟩
    have rows := rows.on sG5
    obtain ⟨wq, eW, pW⟩ := hWG.on sG5
    clear d4 sG5 hWG np ndp nep
    dsimp only [List.set_cons_zero, List.set_cons_succ]
    have hwl : (wq.map V.ref).length = ws.length := by rw [List.length_map, pW.length]
    refine ⟨_, rfl, _, rfl, G5, st, W, _, _, rfl, d5, by decide, eW, by omega, by omega, fun Am as H6 nA d6 hal has => ?_⟩
    have sG6 := same_upd (o := .lst (nats as)) nA
    have rows := rows.on sG6
    have hN := hN.same sG6
    have eW := sG6 _ _ eW
    have pW := paired_on (fun _ _ g => sG6 _ _ g) pW
    have eA : (upd G5 Am (.lst (nats as))) Am = some (.lst (nats as)) := upd_same
    generalize upd G5 Am (.lst (nats as)) = G6 at d6 sG6 rows hN eW pW eA
    rw [hwl] at hal
    refine ⟨_, rfl, _, rfl, _, rfl, l, W, Am, es, ws, as, rfl, rows.on d6.same, nok.nd, h10, ⟨wq, d6.same _ _ eW, paired_on (fun _ _ g => d6.same _ _ g) pW⟩, d6.same _ _ eA, hal, hw24, fun Bd H7 s7 nBd hB => ?_⟩
    obtain ⟨G7, sG7, d7, _, al2⟩ := d6.all s7
    have gBd := d6.free nBd
    obtain ⟨bks, eB, pB⟩ := hB
    have eB7 := al2 _ _ (by intro xs z; cases z) eB
    clear al2 s7 d6 eW pW sG6 eB
    dsimp only [List.set_cons_zero, List.set_cons_succ]
    -- the bottom
    refine ⟨by show 4 ≤ sizeLine; decide, fun B1 nB1 => ?_⟩
    have d8 := d7.new (o := .lst [V.int 1, .int 1, .int 3, .int 8]) nB1
    have s8 := same_upd (o := .lst [V.int 1, .int 1, .int 3, .int 8]) (d7.free nB1)
    have eB1 : (upd G7 B1 (.lst [V.int 1, .int 1, .int 3, .int 8])) B1 = some (.lst [V.int 1, .int 1, .int 3, .int 8]) := upd_same
    generalize upd G7 B1 (.lst [V.int 1, .int 1, .int 3, .int 8]) = G8 at d8 s8 eB1
    refine ⟨_, rfl, G8, st, _, 4, rfl, d8, by decide, by decide, by decide, fun r9 H9 r90 r91 d9 => ?_⟩
    obtain ⟨bot, hat, hb0, hb8⟩ : ∃ bot : Int, atI [V.int 1, .int 1, .int 3, .int 8] r9 = some (V.int bot) ∧ 0 < bot ∧ bot ≤ 8 := by
      have : r9 = 0 ∨ r9 = 1 ∨ r9 = 2 ∨ r9 = 3 := by omega
      rcases this with rfl | rfl | rfl | rfl
      · exact ⟨1, rfl, by decide, by decide⟩
      · exact ⟨1, rfl, by decide, by decide⟩
      · exact ⟨3, rfl, by decide, by decide⟩
      · exact ⟨8, rfl, by decide, by decide⟩
    refine ⟨B1, _, r9, _, rfl, rfl, SqL.of (d9.same _ _ eB1), hat, ?_⟩
    have sG8 := sG7.trans s8
    have eB8 := s8 _ _ eB7
    clear d7 d8 s8 eB1 eB7 sG7 nB1 r90 r91 hat
    -- the places that are known
    obtain ⟨rq, el, pl⟩ := id rows
    have sH9 := sG8.trans d9.same
    refine ⟨_, rfl, l, rfl, ⟨_, SqL.of (sH9 _ _ el)⟩, fun D1 nD1 => ?_⟩
    have lD1 : l ≠ D1 := ne_of_none (sH9 _ _ el) nD1
    refine lc_list (K := K) (a := l) (xs := rq.map V.ref) (fun j H' => H' = upd H9 D1 (.lst (((es.take j).map (·.2.1)).map V.str))) rfl (fun j H' _ e => by rw [e]; exact SqL.of (by rw [upd_ne lD1]; exact sH9 _ _ el)) ?_ ?_
    · rintro j x H1 hj rfl
      rw [List.getElem?_map] at hj
      cases hq : rq[j]? with
      | none => rw [hq] at hj; cases hj
      | some q =>
        rw [hq] at hj
        obtain rfl := Option.some.inj hj
        obtain ⟨e, he, re⟩ := pair_at pl hq
        have re : H9 q = some (.tup [.str e.1, .str e.2.1, .str e.2.2]) := sH9 _ _ re
        refine ⟨rfl, _, rfl, q, _, 1, .str e.2.1, rfl, rfl, SqT.of (by rw [upd_ne (ne_of_none re nD1)]; exact re), at1, _, upd_same, small1000 (by rw [List.length_map, List.length_map, List.length_take]; omega), ?_⟩
        rw [take_more he, List.map_append, List.map_append]
        funext c
        by_cases ec : c = D1
        · rw [ec, upd_same, upd_same]; rfl
        · rw [upd_ne ec, upd_ne ec, upd_ne ec]
    rintro H10 rfl
    rw [List.length_map, pl.length, List.take_length]
    have sa := same_upd (o := .lst ((es.map (·.2.1)).map V.str)) nD1
    have ea : (upd H9 D1 (.lst ((es.map (·.2.1)).map V.str))) D1 = some (.lst ((es.map (·.2.1)).map V.str)) := upd_same
    generalize upd H9 D1 (.lst ((es.map (·.2.1)).map V.str)) = H10 at sa ea ⊢
    refine ⟨_, rfl, z1, fun E1 nE1 => ?_⟩
    have sb := sa.trans (same_upd (o := .lst [V.str b]) nE1)
    have eE : (upd H10 E1 (.lst [V.str b])) E1 = some (.lst [V.str b]) := upd_same
    have ea := same_upd (o := .lst [V.str b]) nE1 _ _ ea
    generalize upd H10 E1 (.lst [V.str b]) = H11 at sb ea eE ⊢
    refine ⟨D1, E1, _, _, rfl, rfl, ea, eE, Nat.le_of_lt (small1000 (by simp only [List.length_map, List.length_cons, List.length_nil]; omega)), fun Kn nKn => ?_⟩
    have sc := sb.trans (same_upd (o := .lst ((es.map (·.2.1)).map V.str ++ [V.str b])) nKn)
    have eKn : (upd H11 Kn (.lst ((es.map (·.2.1)).map V.str ++ [V.str b]))) Kn = some (.lst ((es.map (·.2.1) ++ [b]).map V.str)) := by rw [upd_same, List.map_append]; rfl
    have nKn9 := sb.free nKn
    generalize upd H11 Kn (.lst ((es.map (·.2.1)).map V.str ++ [V.str b])) = H12 at sc eKn ⊢
    obtain ⟨G12, sG12, d12, al, _⟩ := d9.all sc
    have eKG := al _ _ nKn9 eKn
    have hkn : ∀ z ∈ es.map (·.2.1) ++ [b], z ∈ known es := fun z hz => by
      rcases List.mem_append.mp hz with h | h
      · obtain ⟨e, he, rfl⟩ := List.mem_map.mp h
        exact mem_known.mpr ⟨e, he, .inl rfl⟩
      · rw [List.mem_singleton.mp h]; exact nok.t_known
    have hkl : (es.map (·.2.1) ++ [b]).length ≤ 11 ∧ 0 < (es.map (·.2.1) ++ [b]).length := by simp only [List.length_append, List.length_map, List.length_cons, List.length_nil]; omega
    generalize es.map (·.2.1) ++ [b] = kn at eKn eKG hkn hkl
    have eBG := sG12 _ _ eB8
    have sG := sG8.trans sG12
    clear sa sb sc ea eE al nKn nKn9 nE1 nD1 lD1 eB8 sG8 sG12 d9 sH9 eKn
    dsimp only [List.set_cons_zero, List.set_cons_succ]
    refine ⟨fun σ H' => ∃ (Sp : Addr) (zs : List Str) (G' : Hp), σ = [some (.ref S), some (.ref st), some (.ref l), some (.str a), some (.str b), some (.ref W), some (.ref n), some (.ref Am), some (.ref Bd), some (.int bot), some (.ref Kn), some (.ref Sp), none, none, none, none, none, none, none, none, none, none, none, none] ∧ DSt G' H' st 200 ∧ Same G6 G' ∧ G6 Sp = none ∧ G' Bd = some (.dK bks) ∧ G' Sp = some (.lst (zs.map V.str)) ∧ zs.length ≤ 5 ∧ ∀ z ∈ zs, z ∈ known es, ?_, ?_⟩
    · refine ⟨_, rfl, G12, st, _, 6, rfl, d12, by decide, by decide, by decide, fun r H13 r0 r1 d13 => ?_⟩
      obtain ⟨rn, rfl⟩ := Int.eq_ofNat_of_zero_le r0
      refine ⟨_, rfl, by omega, by omega, fun Sp nSp => ?_⟩
      have gSp := d13.free nSp
      have KnSp : Kn ≠ Sp := ne_of_none eKG gSp
      rw [Int.toNat_natCast]
      refine lc_range (lo := 0) (n := rn) (fun i H' => ∃ zs : List Str, DSt (upd G12 Sp (.lst (zs.map V.str))) H' st (150 + i) ∧ zs.length = i ∧ ∀ z ∈ zs, z ∈ known es) ⟨[], (d13.new nSp).mono (by decide), rfl, fun z hz => by cases hz⟩ ?_ ?_
      · rintro i H14 hi ⟨zs, d14, hz1, hz2⟩
        have eK14 : (upd G12 Sp (.lst (zs.map V.str))) Kn = some (.lst (kn.map V.str)) := by rw [upd_ne KnSp]; exact eKG
        refine ⟨rfl, _, rfl, _, rfl, _, rfl, Kn, _, rfl, .inl (SqL.of (d14.same _ _ eK14)), _, st, _, _, rfl, d14, by omega, by rw [List.length_map]; omega, Int.lt_of_le_of_lt (b := 100) (by rw [List.length_map]; omega) (by decide), fun kp H15 k0 k1 d15 => ?_⟩
        obtain ⟨kq, rfl⟩ := Int.eq_ofNat_of_zero_le k0
        rw [List.length_map] at k1
        obtain ⟨z, hz⟩ : ∃ z, kn[kq]? = some z := ⟨_, List.getElem?_eq_getElem (by omega)⟩
        have eK15 := d15.same _ _ eK14
        have eS15 := d15.same Sp _ upd_same
        refine ⟨Kn, _, _, _, rfl, rfl, SqL.of eK15, atI_nat (by rw [List.getElem?_map, hz]; rfl), _, eS15, small1000 (by rw [List.length_map]; omega), zs ++ [z], ?_, by rw [List.length_append, hz1]; rfl, fun y hy => ?_⟩
        · have d16 := d15.put (p := Sp) (o := .lst (zs.map V.str ++ [V.str z])) upd_same
          rw [List.map_append]
          have e2 : upd (upd G12 Sp (.lst (zs.map V.str))) Sp (.lst (zs.map V.str ++ [V.str z])) = upd G12 Sp (.lst (zs.map V.str ++ [V.str z])) := by
            funext c
            by_cases ec : c = Sp
            · rw [ec, upd_same, upd_same]
            · rw [upd_ne ec, upd_ne ec, upd_ne ec]
          rw [e2] at d16
          exact d16
        · rcases List.mem_append.mp hy with h | h
          · exact hz2 y h
          · rw [List.mem_singleton.mp h]; exact hkn z (List.mem_of_getElem? hz)
      · rintro H14 ⟨zs, d14, hz1, hz2⟩
        exact ⟨Sp, zs, _, rfl, d14.mono (by omega), same_mut sG (sG.free gSp), sG.free gSp, by rw [upd_ne (ne_of_none eBG gSp)]; exact eBG, upd_same, by omega, hz2⟩
    rintro σ H13 ⟨Sp, zs, G13, rfl, d13, s13, gSp, eB13, eS13, hz5, hzk⟩
    clear d12 sG eBG eKG hkn hkl
    have hzn : (ws.zip as).map (·.2) = as := List.map_snd_zip (by omega)
    have hbs : ∀ e ∈ borneT es (ws.zip as), e.2.natAbs < 2 ^ 6 := borne_small (by rw [hzn]; exact has)
    have hb6 : bot.natAbs < 2 ^ 6 := by omega
    have hbne : bot ≠ 0 := by omega
    have hts : ts.length ≤ 10 := by rw [pm.length_eq]; exact h10
    have ndt : (names ts).Nodup := (show (names ts).Perm (names es) from pm.map fun e : Ent => e.1).nodup_iff.mpr nok.nd
    have hpk := places_known nok pm hpl
    have hwz : ∀ p ∈ ws.zip as, Wk es a p.1 b := fun p hp => hwalk _ (List.of_mem_zip hp).1
    -- with the start, without the end
    have eSH := d13.same _ _ eS13
    refine ⟨_, rfl, Sp, rfl, ⟨_, SqL.of eSH⟩, fun D1 nD1 => ?_⟩
    have SD1 : Sp ≠ D1 := ne_of_none eSH nD1
    refine lc_list (K := K) (a := Sp) (xs := zs.map V.str) (fun j H' => H' = upd H13 D1 (.lst (((zs.take j).filter fun z => !decide (z = b)).map V.str))) rfl (fun j H' _ e => by rw [e]; exact SqL.of (by rw [upd_ne SD1]; exact eSH)) ?_ ?_
    · rintro j x H14 hj rfl
      rw [List.getElem?_map] at hj
      cases hz : zs[j]? with
      | none => rw [hz] at hj; cases hj
      | some z =>
        rw [hz] at hj
        obtain rfl := Option.some.inj hj
        have hjl := (List.getElem?_eq_some_iff.mp hz).1
        refine ⟨rfl, _, rfl, _, rfl, rfl, _, rfl, ?_⟩
        rw [take_more hz, List.filter_append]
        by_cases hd : z = b
        · rw [decide_eq_true (show V.str z = V.str b by rw [hd]), List.filter_cons_of_neg (by simpa using hd), List.filter_nil, List.append_nil]
          exact iteF rfl
        · rw [decide_eq_false (fun q => hd (V.str.inj q)), List.filter_cons_of_pos (by simpa using hd)]
          refine iteT ⟨_, rfl, _, upd_same, small1000 ?_, ?_⟩
          · have h1 := List.length_filter_le (fun z : Str => !decide (z = b)) (zs.take j)
            rw [List.length_take] at h1
            rw [List.length_map]
            omega
          · rw [List.map_append]
            funext c
            by_cases ec : c = D1
            · rw [ec, upd_same, upd_same]; rfl
            · rw [upd_ne ec, upd_ne ec, upd_ne ec]
    rintro H14 rfl
    rw [List.length_map, List.take_length]
    have hfl := List.length_filter_le (fun z : Str => !decide (z = b)) zs
    have hfk : ∀ z ∈ zs.filter (fun z => !decide (z = b)) ++ [a], z ∈ known es ∧ z ≠ b := fun z hz => by
      rcases List.mem_append.mp hz with h | h
      · obtain ⟨h1, h2⟩ := List.mem_filter.mp h
        exact ⟨hzk z h1, by simpa using h2⟩
      · rw [List.mem_singleton.mp h]; exact ⟨nok.s_known, nok.ne⟩
    have sa := same_upd (o := .lst ((zs.filter fun z => !decide (z = b)).map V.str)) nD1
    have ea : (upd H13 D1 (.lst ((zs.filter fun z => !decide (z = b)).map V.str))) D1 = some (.lst ((zs.filter fun z => !decide (z = b)).map V.str)) := upd_same
    generalize upd H13 D1 (.lst ((zs.filter fun z => !decide (z = b)).map V.str)) = H14 at sa ea ⊢
    refine ⟨_, rfl, z1, fun E1 nE1 => ?_⟩
    have sb := sa.trans (same_upd (o := .lst [V.str a]) nE1)
    have eE : (upd H14 E1 (.lst [V.str a])) E1 = some (.lst [V.str a]) := upd_same
    have ea := same_upd (o := .lst [V.str a]) nE1 _ _ ea
    generalize upd H14 E1 (.lst [V.str a]) = H15 at sb ea eE ⊢
    refine ⟨D1, E1, _, _, rfl, rfl, ea, eE, Nat.le_of_lt (small1000 (by simp only [List.length_map, List.length_cons, List.length_nil]; omega)), fun Ws nWs => ?_⟩
    have sc := sb.trans (same_upd (o := .lst ((zs.filter fun z => !decide (z = b)).map V.str ++ [V.str a])) nWs)
    have eWs : (upd H15 Ws (.lst ((zs.filter fun z => !decide (z = b)).map V.str ++ [V.str a]))) Ws = some (.lst ((zs.filter (fun z => !decide (z = b)) ++ [a]).map V.str)) := by rw [upd_same, List.map_append]; rfl
    generalize upd H15 Ws (.lst ((zs.filter fun z => !decide (z = b)).map V.str ++ [V.str a])) = H16 at sc eWs ⊢
    have hsa : a ∈ zs.filter (fun z => !decide (z = b)) ++ [a] := List.mem_append_right _ (List.mem_singleton.mpr rfl)
    have hsb : b ∉ zs.filter (fun z => !decide (z = b)) ++ [a] := fun z => (hfk b z).2 rfl
    generalize zs.filter (fun z => !decide (z = b)) ++ [a] = wz at eWs hfk hsa hsb
    clear sa sb ea eE nWs nE1 nD1 SD1 hfl
    dsimp only [List.set_cons_zero, List.set_cons_succ]
    have s16 := d13.same.trans sc
    refine ⟨_, rfl, _, rfl, _, rfl, Bd, bot, borneT es (ws.zip as), rfl, ⟨bks, s16 _ _ eB13, pB⟩, hb0, hb6, hbs, by rw [nms_borne]; exact nok.nd, by unfold borneT; rw [List.length_map]; omega, fun Rd H17 s17 nRd hR => ?_⟩
    have s1317 := (s13.trans s16).trans s17
    refine ⟨_, rfl, n, Rd, Ws, a, b, ts, ps, wz, _, 6, rfl, hN.same s1317, hR, .inl (s17 _ _ eWs), ndt, hts, by decide, fun T1 H18 s18 hT1 => ?_⟩
    rw [ans_rat hpk, ans_sharing nok pm _ hwz (fun z hz => (hfk z hz).1) hsa hsb, hzn] at hT1
    have s1318 := (sc.trans s17).trans s18
    have s618 := s1317.trans s18
    refine ⟨fun σ H' => ∃ x12 x13 : Option V, σ = [some (.ref S), some (.ref st), some (.ref l), some (.str a), some (.str b), some (.ref W), some (.ref n), some (.ref Am), some (.ref Bd), some (.int bot), some (.ref Kn), some (.ref Sp), x12, x13, none, none, none, none, none, none, none, none, none, none] ∧ Same H13 H', ?_, ?_⟩
    · refine ⟨_, rfl, _, rfl, Am, as.map fun a : Nat => (a : Int), rfl, SqL.of (by rw [s618 _ _ eA, nats_map]), _, rfl, fun q dq nq ndq neq => ?_⟩
      rw [nats_sum]
      refine ⟨q, dq, _, bot, rfl, upd_same, hbne, Nat.lt_trans hb6 (Nat.pow_lt_pow_right (by decide) (by decide)), fun K1 rk st1 => ⟨rfl, z2, fun T2 nT2 => ?_⟩⟩
      have s19 := Same.made nq ndq st1
      have s20 := same_upd (o := .tup [V.str "load", .ref q]) nT2
      have r1 : RV T.f_Ratio K1 q (vq ((as.sum : Nat) : Int) bot) 10 := ⟨_, _, rk, Low.of hbne, vq_low hbne, Sz.low ⟨by omega, Nat.lt_trans hb6 (by decide)⟩ hbne⟩
      refine ⟨tol_dtup (k' := 10) (hT1.on (s19.trans s20)) ⟨q, upd_same, r1.on s20⟩, fun H19 x19 => ⟨_, rfl, iteF ⟨_, _, rfl, ((s1318.trans s19).trans s20).trans x19⟩⟩⟩
    rintro σ H19 ⟨x12, x13, rfl, s19⟩
    clear hT1 s1318 s618 s1317 s16 s17 s18 sc eWs hfk hsa hsb hR nRd
    have d19 := d13.on s19
    clear d13 s19 eSH
    have BS : Bd ≠ Sp := fun z => by rw [z, eS13] at eB13; cases eB13
    -- other loads
    refine ⟨fun σ H' => ∃ (x12 x13 x14 x15 x16 : Option V) (G' : Hp) (bs : Tab Int), σ = [some (.ref S), some (.ref st), some (.ref l), some (.str a), some (.str b), some (.ref W), some (.ref n), some (.ref Am), some (.ref Bd), some (.int bot), some (.ref Kn), some (.ref Sp), x12, x13, x14, x15, x16, none, none, none, none, none, none, none] ∧ DSt G' H' st 230 ∧ Same G6 G' ∧ DictI G' Bd bs ∧ G' Sp = some (.lst (zs.map V.str)) ∧ nms bs = names es ∧ ∀ e ∈ bs, e.2.natAbs < 2 ^ 6, ?_, ?_⟩
    · refine ⟨_, rfl, G13, st, _, 2, rfl, d19, by decide, by decide, by decide, fun r H20 r0 r1 d20 => ?_⟩
      refine ⟨rfl, _, rfl, ite2 (fun _ => ?_) fun _ => ?_⟩
      · refine ⟨_, rfl, l, rfl, ⟨_, SqL.of ((s13.trans d20.same) _ _ el)⟩, ?_⟩
        refine for_list (K := K) (a := l) (xs := rq.map V.ref) (fun j σ H' => ∃ (x14 x15 x16 : Option V) (G' : Hp) (bs : Tab Int), σ = [some (.ref S), some (.ref st), some (.ref l), some (.str a), some (.str b), some (.ref W), some (.ref n), some (.ref Am), some (.ref Bd), some (.int bot), some (.ref Kn), some (.ref Sp), x12, x13, x14, x15, x16, none, none, none, none, none, none, none] ∧ DSt G' H' st (201 + j) ∧ Same G6 G' ∧ DictI G' Bd bs ∧ G' Sp = some (.lst (zs.map V.str)) ∧ nms bs = names es ∧ ∀ e ∈ bs, e.2.natAbs < 2 ^ 6) ⟨_, _, _, G13, borneT es (ws.zip as), rfl, d20, s13, ⟨bks, eB13, pB⟩, eS13, nms_borne _ _, hbs⟩ (fun j σ H' _ ⟨_, _, _, G', _, _, d, s, _⟩ => SqL.of (d.same _ _ (s _ _ el))) ?_ ?_
        · rintro j x σ H21 hj ⟨x14, x15, x16, G', bs, rfl, d21, s21, ⟨ks, eB, pK⟩, eS, hnm, hsm⟩
          rw [List.getElem?_map] at hj
          cases hq : rq[j]? with
          | none => rw [hq] at hj; cases hj
          | some q =>
            rw [hq] at hj
            obtain rfl := Option.some.inj hj
            obtain ⟨e, he, re⟩ := pair_at pl hq
            have re : G6 q = some (.tup [.str e.1, .str e.2.1, .str e.2.2]) := re
            have hjl := (List.getElem?_eq_some_iff.mp he).1
            refine ⟨q, _, rfl, SqT.of (d21.same _ _ (s21 _ _ re)), rfl, _, _, rfl, _, _, rfl, _, _, rfl, rfl, ?_⟩
            refine ⟨_, rfl, G', st, _, 10, rfl, d21, by omega, by decide, by decide, fun r2 H22 r20 r21 d22 => ?_⟩
            refine ⟨_, _, rfl, rfl, _, rfl, _, rfl, Bd, _, rfl, DPut.k (k := .inr e.1) (d22.same _ _ eB) (small1000 (by rw [pK.length, tab_len hnm]; omega)), ?_⟩
            have hm : e.1 ∈ nms bs := by rw [hnm]; exact List.mem_map_of_mem (f := (·.1)) (List.mem_of_getElem? he)
            refine ⟨_, _, _, upd G' Bd (.dK (putK ks (.inr e.1) (.int (r2 - 3)))), put bs e.1 (r2 - 3), rfl, (d22.put eB).mono (by omega), same_mut s21 gBd, ⟨_, upd_same, put_ok pK rfl⟩, by rw [upd_ne (Ne.symm BS)]; exact eS, by rw [nms_put hm]; exact hnm, fun f hf => ?_⟩
            rcases put_mem hf with h | h
            · exact hsm f h
            · rw [h]; omega
        · rintro σ H21 ⟨x14, x15, x16, G', bs, rfl, d21, s21, hB, eS, hnm, hsm⟩
          rw [List.length_map, pl.length] at d21
          exact ⟨_, _, _, _, _, G', bs, rfl, d21.mono (by omega), s21, hB, eS, hnm, hsm⟩
      · exact ⟨_, _, _, _, _, G13, borneT es (ws.zip as), rfl, d20.mono (by decide), s13, ⟨bks, eB13, pB⟩, eS13, nms_borne _ _, hbs⟩
    clear d19 hbs hzn pB eB13 eS13 s13 eA has hal hw24 hw0
    rintro σ H20 ⟨x12, x13, x14, x15, x16, G20, bs, rfl, d20, s20, hB20, eS20, hnm, hsm⟩
    obtain ⟨e0, he0⟩ : ∃ e, es[0]? = some e := ⟨_, List.getElem?_eq_getElem (show 0 < es.length from nok.few)⟩
    obtain ⟨e9, he9⟩ : ∃ e, es[es.length - 1]? = some e := ⟨_, List.getElem?_eq_getElem (show es.length - 1 < es.length from by have := nok.few; omega)⟩
    obtain ⟨q0, hq0⟩ : ∃ q, rq[0]? = some q := ⟨_, List.getElem?_eq_getElem (by rw [pl.length]; exact nok.few)⟩
    obtain ⟨q9, hq9⟩ : ∃ q, rq[rq.length - 1]? = some q := ⟨_, List.getElem?_eq_getElem (by have := nok.few; have := pl.length; omega)⟩
    have rl0 : G6 q0 = some (.tup [.str e0.1, .str e0.2.1, .str e0.2.2]) := by
      obtain ⟨e, he, re⟩ := pair_at pl hq0
      rw [he0] at he
      obtain rfl := Option.some.inj he
      exact re
    have rl9 : G6 q9 = some (.tup [.str e9.1, .str e9.2.1, .str e9.2.2]) := by
      obtain ⟨e, he, re⟩ := pair_at pl hq9
      rw [pl.length, he9] at he
      obtain rfl := Option.some.inj he
      exact re
    have at_0 : atI (rq.map V.ref) 0 = some (V.ref q0) := atI_nat (j := 0) (by rw [List.getElem?_map, hq0]; rfl)
    have at_9 : atI (rq.map V.ref) (-1) = some (V.ref q9) := atI_last (by rw [List.length_map, List.getElem?_map, hq9]; rfl)
    -- strange places
    refine ⟨fun σ H' => ∃ (G' : Hp) (zs : List Str), σ = [some (.ref S), some (.ref st), some (.ref l), some (.str a), some (.str b), some (.ref W), some (.ref n), some (.ref Am), some (.ref Bd), some (.int bot), some (.ref Kn), some (.ref Sp), x12, x13, x14, x15, x16, none, none, none, none, none, none, none] ∧ DSt G' H' st 240 ∧ Same G6 G' ∧ DictI G' Bd bs ∧ G' Sp = some (.lst (zs.map V.str)) ∧ zs.length ≤ 7, ?_, ?_⟩
    · refine ⟨_, rfl, G20, st, _, 8, rfl, d20, by decide, by decide, by decide, fun r H21 r0 r1 d21 => ?_⟩
      refine ⟨rfl, _, rfl, ite2 (fun _ => ?_) fun _ => ?_⟩
      · refine ⟨_, rfl, .inl ⟨rfl, _, SqL.of (d21.same _ _ eS20)⟩, _, rfl, _, rfl, Sp, _, rfl, .inl (SqL.of (d21.same _ _ eS20)), _, 1, rfl, rfl, G20, st, _, _, rfl, d21, by omega, by rw [List.length_map]; omega, Int.lt_of_le_of_lt (b := 100) (by rw [List.length_map]; omega) (by decide), fun ra1 Ha1 ra01 ra11 da1 => ?_⟩
        rw [List.length_map] at ra11
        refine ⟨_, rfl, l, _, _, .ref q0, rfl, rfl, SqL.of ((s20.trans da1.same) _ _ el), at_0, q0, _, 0, .str e0.1, rfl, rfl, SqT.of ((s20.trans da1.same) _ _ rl0), at0, by show 4 ≤ sizeLine; decide, fun L1 nL1 => ?_⟩
        have db1 := da1.new (o := .lst [V.str "zz9", .str "", .str "S", .str e0.1]) nL1
        have sb1 := same_upd (o := .lst [V.str "zz9", .str "", .str "S", .str e0.1]) (da1.free nL1)
        have eL1 : (upd G20 L1 (.lst [V.str "zz9", .str "", .str "S", .str e0.1])) L1 = some (.lst [V.str "zz9", .str "", .str "S", .str e0.1]) := upd_same
        have eS1 := sb1 _ _ eS20
        generalize upd G20 L1 (.lst [V.str "zz9", .str "", .str "S", .str e0.1]) = Gb1 at db1 sb1 eL1 eS1
        refine ⟨_, rfl, Gb1, st, _, 4, rfl, db1, by omega, by decide, by decide, fun rc1 Hc1 rc01 rc11 dc1 => ?_⟩
        obtain ⟨z1, hz1⟩ := pick4 (w1 := "zz9") (w2 := "") (w3 := "S") (w4 := e0.1) rc01 rc11
        refine ⟨L1, _, rc1, _, rfl, rfl, SqL.of (dc1.same _ _ eL1), hz1, Sp, _, _, _, rfl, rfl, dc1.same _ _ eS1, small1000 (by rw [List.length_map]; omega), ra01, Int.lt_of_le_of_lt (b := 1000) (by omega) (by decide), ?_⟩
        rw [ins_txt]
        have hl1 : (zs.take ra1.toNat ++ [z1] ++ zs.drop ra1.toNat).length = zs.length + 1 := by
          simp only [List.length_append, List.length_take, List.length_drop, List.length_cons, List.length_nil]
          omega
        generalize zs.take ra1.toNat ++ [z1] ++ zs.drop ra1.toNat = zs1 at hl1 ⊢
        have dd1 := dc1.put (o := .lst (zs1.map V.str)) eS1
        have ss1 := same_mut (o := .lst (zs1.map V.str)) (s20.trans sb1) gSp
        have eT1 : (upd Gb1 Sp (.lst (zs1.map V.str))) Sp = some (.lst (zs1.map V.str)) := upd_same
        have hB1 : DictI (upd Gb1 Sp (.lst (zs1.map V.str))) Bd bs := let ⟨ks, e, p⟩ := hB20.on sb1; ⟨ks, by rw [upd_ne BS]; exact e, p⟩
        generalize upd Gb1 Sp (.lst (zs1.map V.str)) = Gd1 at dd1 ss1 eT1 hB1
        generalize upd Hc1 Sp (.lst (zs1.map V.str)) = Hd1 at dd1 ⊢
        refine ⟨_, rfl, .inl ⟨rfl, _, SqL.of (dd1.same _ _ eT1)⟩, _, rfl, _, rfl, Sp, _, rfl, .inl (SqL.of (dd1.same _ _ eT1)), _, 1, rfl, rfl, Gd1, st, _, _, rfl, dd1, by omega, by rw [List.length_map]; omega, Int.lt_of_le_of_lt (b := 100) (by rw [List.length_map]; omega) (by decide), fun ra2 Ha2 ra02 ra12 da2 => ?_⟩
        rw [List.length_map] at ra12
        refine ⟨_, rfl, 1, rfl, l, _, _, .ref q9, rfl, rfl, SqL.of ((ss1.trans da2.same) _ _ el), at_9, q9, _, 0, .str e9.1, rfl, rfl, SqT.of ((ss1.trans da2.same) _ _ rl9), at0, by show 4 ≤ sizeLine; decide, fun L2 nL2 => ?_⟩
        have db2 := da2.new (o := .lst [V.str "zz8", .str "s", .str "A", .str e9.1]) nL2
        have sb2 := same_upd (o := .lst [V.str "zz8", .str "s", .str "A", .str e9.1]) (da2.free nL2)
        have eL2 : (upd Gd1 L2 (.lst [V.str "zz8", .str "s", .str "A", .str e9.1])) L2 = some (.lst [V.str "zz8", .str "s", .str "A", .str e9.1]) := upd_same
        have eS2 := sb2 _ _ eT1
        generalize upd Gd1 L2 (.lst [V.str "zz8", .str "s", .str "A", .str e9.1]) = Gb2 at db2 sb2 eL2 eS2
        refine ⟨_, rfl, Gb2, st, _, 4, rfl, db2, by omega, by decide, by decide, fun rc2 Hc2 rc02 rc12 dc2 => ?_⟩
        obtain ⟨z2, hz2⟩ := pick4 (w1 := "zz8") (w2 := "s") (w3 := "A") (w4 := e9.1) rc02 rc12
        refine ⟨L2, _, rc2, _, rfl, rfl, SqL.of (dc2.same _ _ eL2), hz2, Sp, _, _, _, rfl, rfl, dc2.same _ _ eS2, small1000 (by rw [List.length_map]; omega), ra02, Int.lt_of_le_of_lt (b := 1000) (by omega) (by decide), ?_⟩
        rw [ins_txt]
        have hl2 : (zs1.take ra2.toNat ++ [z2] ++ zs1.drop ra2.toNat).length = zs1.length + 1 := by
          simp only [List.length_append, List.length_take, List.length_drop, List.length_cons, List.length_nil]
          omega
        generalize zs1.take ra2.toNat ++ [z2] ++ zs1.drop ra2.toNat = zs2 at hl2 ⊢
        have dd2 := dc2.put (o := .lst (zs2.map V.str)) eS2
        have ss2 := same_mut (o := .lst (zs2.map V.str)) (ss1.trans sb2) gSp
        have eT2 : (upd Gb2 Sp (.lst (zs2.map V.str))) Sp = some (.lst (zs2.map V.str)) := upd_same
        have hB2 : DictI (upd Gb2 Sp (.lst (zs2.map V.str))) Bd bs := let ⟨ks, e, p⟩ := hB1.on sb2; ⟨ks, by rw [upd_ne BS]; exact e, p⟩
        generalize upd Gb2 Sp (.lst (zs2.map V.str)) = Gd2 at dd2 ss2 eT2 hB2
        generalize upd Hc2 Sp (.lst (zs2.map V.str)) = Hd2 at dd2 ⊢
        exact ⟨Gd2, zs2, rfl, dd2.mono (by omega), ss2, hB2, eT2, by omega⟩
      · exact ⟨G20, zs, rfl, d21.mono (by decide), s20, hB20, eS20, by omega⟩
    clear d20 s20 hB20 eS20 hzk hz5
    rintro σ H21 ⟨G21, zs, rfl, d21, s21, hB21, eS21, hz7⟩
    -- links without a load
    refine ⟨fun σ H' => ∃ bs : Tab Int, σ = [some (.ref S), some (.ref st), some (.ref l), some (.str a), some (.str b), some (.ref W), some (.ref n), some (.ref Am), some (.ref Bd), some (.int bot), some (.ref Kn), some (.ref Sp), x12, x13, x14, x15, x16, none, none, none, none, none, none, none] ∧ Same G6 H' ∧ DictI H' Bd bs ∧ H' Sp = some (.lst (zs.map V.str)) ∧ (nms bs).Nodup ∧ bs.length ≤ 10 ∧ ∀ e ∈ bs, e.2.natAbs < 2 ^ 6, ?_, ?_⟩
    · refine ⟨_, rfl, G21, st, _, 8, rfl, d21, by decide, by decide, by decide, fun r H22 r0 r1 d22 => ?_⟩
      have hbl := tab_len hnm
      have ndb : (nms bs).Nodup := by rw [hnm]; exact nok.nd
      refine ⟨rfl, _, rfl, ite2 (fun _ => ?_) fun _ => ?_⟩
      · obtain ⟨ks, eB, pK⟩ := id hB21
        refine ⟨_, rfl, Bd, rfl, .inl ⟨ks, .inl (d22.same _ _ eB)⟩, _, rfl, _, rfl, _, rfl, l, _, rfl, .inl (SqL.of ((s21.trans d22.same) _ _ el)), G21, st, _, _, rfl, d22, by decide, by rw [List.length_map, pl.length]; have := nok.few; omega, Int.lt_of_le_of_lt (b := 100) (by rw [List.length_map, pl.length]; omega) (by decide), fun rk H23 rk0 rk1 d23 => ?_⟩
        obtain ⟨kn2, rfl⟩ := Int.eq_ofNat_of_zero_le rk0
        rw [List.length_map] at rk1
        obtain ⟨q, hq⟩ : ∃ q, rq[kn2]? = some q := ⟨_, List.getElem?_eq_getElem (by omega)⟩
        obtain ⟨e, he, re⟩ := pair_at pl hq
        have re : G6 q = some (.tup [.str e.1, .str e.2.1, .str e.2.2]) := re
        have s23 := s21.trans d23.same
        have hm : e.1 ∈ nms bs := by rw [hnm]; exact List.mem_map_of_mem (f := (·.1)) (List.mem_of_getElem? he)
        obtain ⟨x, hvx⟩ : ∃ x : Int, valV ks (.inr e.1 : Key) = some (.int x) := by
          rcases val_of (n := e.1) pK with ⟨f1, f2⟩ | ⟨x, v, f1, f2, hx⟩
          · have := fnd_isSome (es := bs) (n := e.1)
            rw [f1, decide_eq_true hm] at this
            cases this
          · have hx : v = .int x := hx
            exact ⟨x, by rw [f2, hx]⟩
        have eB23 := d23.same _ _ eB
        refine ⟨l, _, _, .ref q, rfl, rfl, SqL.of (s23 _ _ el), atI_nat (by rw [List.getElem?_map, hq]; rfl), q, _, 0, .str e.1, rfl, rfl, SqT.of (s23 _ _ re), at0, ks, .inr e.1, .int x, eB23, rfl, hvx, ?_⟩
        have s24 := same_mut (o := .dK (dropK ks (.inr e.1))) s23 gBd
        have p24 := drop_ok (n := e.1) pK
        have eB24 : (upd H23 Bd (.dK (dropK ks (.inr e.1)))) Bd = some (.dK (dropK ks (.inr e.1))) := upd_same
        have eS24 : (upd H23 Bd (.dK (dropK ks (.inr e.1)))) Sp = some (.lst (zs.map V.str)) := by rw [upd_ne (Ne.symm BS)]; exact d23.same _ _ eS21
        generalize upd H23 Bd (.dK (dropK ks (.inr e.1))) = H24 at s24 eB24 eS24 ⊢
        have sub : (bs.filter fun x => decide (x.1 ≠ e.1)).Sublist bs := List.filter_sublist
        have sub2 : (nms (bs.filter fun x => decide (x.1 ≠ e.1))).Sublist (nms bs) := sub.map fun q : Str × Int => q.1
        have hl24 := sub.length_le
        have nd24 := sub2.nodup ndb
        have sm24 : ∀ f ∈ bs.filter (fun x => decide (x.1 ≠ e.1)), f.2.natAbs < 2 ^ 6 := fun f hf => hsm f (sub.mem hf)
        generalize bs.filter (fun x => decide (x.1 ≠ e.1)) = cs at p24 hl24 nd24 sm24
        generalize dropK ks (.inr e.1) = ks2 at p24 eB24
        refine ⟨_, rfl, Bd, rfl, .inl ⟨ks2, .inl eB24⟩, _, rfl, l, _, _, .ref q0, rfl, rfl, SqL.of (s24 _ _ el), at_0, q0, _, 0, .str e0.1, rfl, rfl, SqT.of (s24 _ _ rl0), at0, ks2, .inr e0.1, eB24, rfl, fun v hv => ?_, fun hv => ?_⟩
        · have sub3 : (cs.filter fun x => decide (x.1 ≠ e0.1)).Sublist cs := List.filter_sublist
          have sub4 : (nms (cs.filter fun x => decide (x.1 ≠ e0.1))).Sublist (nms cs) := sub3.map fun q : Str × Int => q.1
          have hl3 := sub3.length_le
          exact ⟨_, rfl, same_mut s24 gBd, ⟨_, upd_same, drop_ok (n := e0.1) p24⟩, by rw [upd_ne (Ne.symm BS)]; exact eS24, sub4.nodup nd24, by omega, fun f hf => sm24 f (sub3.mem hf)⟩
        · exact ⟨cs, rfl, s24, ⟨ks2, eB24, p24⟩, eS24, nd24, by omega, sm24⟩
      · exact ⟨bs, rfl, s21.trans d22.same, hB21.on d22.same, d22.same _ _ eS21, ndb, by omega, hsm⟩
    clear d21 s21 hB21 eS21 hnm hsm at_0 at_9 rl0 rl9 he0 he9 hq0 hq9
    rintro σ H22 ⟨bs, rfl, s22, hB22, eS22, ndb, hbl, hsm⟩
    have haaa : ("aaa" : Str) ∉ names ts := fun z => by
      obtain ⟨e, he, e1⟩ := List.mem_map.mp z
      have := hlw e (pm.mem_iff.mp he)
      rw [e1] at this
      exact absurd this (by decide +kernel)
    -- what is handed over
    refine ⟨_, rfl, _, rfl, Bd, bot, bs, rfl, hB22, hb0, hb6, hsm, ndb, by omega, fun Hd0 H23 s23 nHd hHd => ?_⟩
    refine ⟨fun σ H' => ∃ Hd : Addr, σ = [some (.ref S), some (.ref st), some (.ref l), some (.str a), some (.str b), some (.ref W), some (.ref n), some (.ref Am), some (.ref Bd), some (.int bot), some (.ref Kn), some (.ref Sp), x12, x13, x14, x15, x16, some (.ref Hd), none, none, none, none, none, none] ∧ Same H22 H' ∧ H22 Hd = none ∧ DictN T.f_Ratio H' Hd (ratT bs bot) 6, ?_, ?_⟩
    · refine ⟨_, rfl, rfl, _, rfl, ite2 (fun hd => ?_) fun _ => ?_⟩
      · have hd : bot = 1 := V.int.inj (of_decide_eq_true hd)
        obtain ⟨ks, eB, pK⟩ := id hB22
        refine ⟨_, rfl, Bd, ks, rfl, .inl (s23 _ _ eB), fun D nD => ⟨D, rfl, s23.trans (same_upd nD), s23.free nD, ks, upd_same, ?_⟩⟩
        have pr : ∀ {kk : List (Key × V)} {cs : Tab Int}, Paired (EntG fun v (x : Int) => v = .int x) kk cs → (∀ e ∈ cs, e.2.natAbs < 2 ^ 6) → Paired (EntG fun v x => NV T.f_Ratio (upd H23 D (.dK ks)) v x 6) kk (ratT cs bot) := fun {kk cs} p => by
          induction p with
          | nil => intro _; exact .nil
          | @cons kv e as bs r rr ih =>
            intro h
            refine .cons ⟨r.1, ?_⟩ (ih fun f hf => h f (List.mem_cons_of_mem _ hf))
            have hx : kv.2 = .int e.2 := r.2
            rw [hx]
            show NV _ _ _ (vq e.2 bot) 6
            rw [hd, vq_one]
            exact NV.int e.2 (h e List.mem_cons_self) (by decide)
        exact pr pK hsm
      · exact ⟨Hd0, rfl, s23, nHd, hHd⟩
    clear nHd hHd s23
    rintro σ H23 ⟨Hd, rfl, s23, nHd, ks, eHd, pHd⟩
    intro q9 dq9 nq9 ndq9 neq9
    refine ⟨q9, dq9, 9, 1, rfl, upd_same, by decide, Nat.one_lt_two_pow (by decide), fun K1 rk st1 => ⟨rfl, ?_⟩⟩
    have s24 := Same.made nq9 ndq9 st1
    have r9 : RV T.f_Ratio K1 q9 9 6 := ⟨_, _, rk, Low.of (by decide), by rw [vq_low (by decide), vq_one]; rfl, Sz.low (by unfold Sz; decide) (by decide)⟩
    have eHd1 := s24 _ _ eHd
    have hkl : ks.length ≤ 10 := by
      rw [pHd.length]
      unfold ratT
      rw [List.length_map]
      exact hbl
    refine ⟨_, rfl, Hd, _, rfl, DPut.k (k := .inr "aaa") eHd1 (small1000 (by omega)), ?_⟩
    have hN25 : DictN T.f_Ratio (upd K1 Hd (.dK (putK ks (.inr "aaa") (.ref q9)))) Hd (put (ratT bs bot) "aaa" 9) 6 := by
      refine ⟨_, upd_same, ?_⟩
      exact put_ok (R := fun v x => NV T.f_Ratio (upd K1 Hd (.dK (putK ks (.inr "aaa") (.ref q9)))) v x 6) (paired_on (fun _ _ ⟨g1, g2⟩ => ⟨g1, (g2.on s24).dput eHd1⟩) pHd) (r9.num.dput eHd1)
    have ndh : (nms (put (ratT bs bot) "aaa" 9)).Nodup := by
      by_cases hm : ("aaa" : Str) ∈ nms (ratT bs bot)
      · rw [nms_put hm, nms_rat]; exact ndb
      · unfold put
        rw [if_neg hm]
        unfold nms at hm ⊢
        rw [List.map_append]
        refine List.nodup_append.mpr ⟨by have := nms_rat bs bot; unfold nms at this; rw [this]; exact ndb, by simp, fun x hx y hy z => ?_⟩
        rw [List.mem_singleton.mp hy] at z
        rw [z] at hx
        exact hm hx
    have s25 := same_mut (o := .dK (putK ks (.inr "aaa") (.ref q9))) (s23.trans s24) nHd
    obtain ⟨k5, e5, p5⟩ := id hN25
    generalize upd K1 Hd (.dK (putK ks (.inr "aaa") (.ref q9))) = H25 at s25 hN25 e5 p5 ⊢
    clear rk st1 s24 r9 eHd1 hkl eHd pHd nq9 ndq9 neq9
    refine ⟨_, rfl, Hd, k5, rfl, .inl e5, fun Kp nKp => ?_⟩
    have s26 := same_upd (o := .dK k5) nKp
    have eK6 : (upd H25 Kp (.dK k5)) Kp = some (.dK k5) := upd_same
    have HK : Hd ≠ Kp := ne_of_none e5 nKp
    generalize upd H25 Kp (.dK k5) = H26 at s26 eK6 ⊢
    have s226 := s25.trans s26
    refine ⟨_, rfl, Sp, _, rfl, .inl (SqL.of (s226 _ _ eS22)), fun Gv nGv => ?_⟩
    have s27 := same_upd (o := .lst (zs.map V.str)) nGv
    have eG7 : (upd H26 Gv (.lst (zs.map V.str))) Gv = some (.lst (zs.map V.str)) := upd_same
    have SG : Sp ≠ Gv := ne_of_none (s226 _ _ eS22) nGv
    generalize upd H26 Gv (.lst (zs.map V.str)) = H27 at s27 eG7 ⊢
    have s2227 := s226.trans s27
    have s627 := s22.trans s2227
    dsimp only [List.set_cons_zero, List.set_cons_succ]
    refine ⟨_, rfl, _, rfl, _, rfl, _, rfl, l, Bd, Sp, bot, es, ts, bs, zs, rfl, rows.on s627, nok.nd, h10, pm, srt, hB22.on s2227, hsm, s2227 _ _ eS22, hb0, hb6, fun Td H28 s28 hTd => ?_⟩
    have e5' := s28 _ _ (s27 _ _ (s26 _ _ e5))
    have hN28 := ((hN25.on s26).on s27).on s28
    have same28 : ∀ {Hx : Hp}, Same H28 Hx → SameD K Hx (.ref Hd) (.ref Kp) := fun {Hx} sx => same_dN (sx _ _ e5') (sx _ _ (s28 _ _ (s27 _ _ eK6))) HK ((hN28.on sx).here (sx _ _ e5')) ndh
    have s628 := s627.trans s28
    have eS28 := (s2227.trans s28) _ _ eS22
    have eG28 := s28 _ _ eG7
    have ans := ans_aaa (es := es) (ts := ts) (ps := ps) (bs := bs) (b := bot) (zs := zs) hpk haaa
    -- the answer
    refine ⟨_, rfl, _, rfl, _, rfl, n, Hd, Gv, a, b, ts, ps, zs, _, 6, rfl, hN.same s628, hN28, .inl eG28, ndt, hts, by decide, fun T1 H29 s29 hT1 => ?_⟩
    rw [ans] at hT1
    refine ⟨_, rfl, tol_dtup hT1 (hTd.on s29), fun H30 x30 => ⟨_, rfl, iteF ?_⟩⟩
    have s2830 : Same H28 H30 := s29.trans x30
    refine ⟨_, rfl, _, rfl, Gv, Sp, _, rfl, rfl, SqL.of (s2830 _ _ eG28), SqL.of (s2830 _ _ eS28), fun z hz => ?_, _, rfl, iteF ?_⟩
    · obtain ⟨y, _, rfl⟩ := List.mem_map.mp hz
      rfl
    refine ⟨_, rfl, _, rfl, same28 s2830, _, rfl, iteF ?_⟩
    refine ⟨_, rfl, _, rfl, _, rfl, Sp, _, rfl, .inl ⟨SqL.of (s2830 _ _ eS28), fun Tp nTp => ?_⟩⟩
    have s31 := s2830.trans (same_upd (o := .tup (zs.map V.str)) nTp)
    have eTp : (upd H30 Tp (.tup (zs.map V.str))) Tp = some (.tup (zs.map V.str)) := upd_same
    generalize upd H30 Tp (.tup (zs.map V.str)) = H31 at s31 eTp ⊢
    refine ⟨n, Hd, Tp, a, b, ts, ps, zs, _, 6, rfl, hN.same (s628.trans s31), hN28.on s31, .inr eTp, ndt, hts, by decide, fun T3 H32 s32 hT3 => ?_⟩
    rw [ans] at hT3
    have s2832 := s31.trans s32
    refine ⟨_, rfl, tol_dtup hT3 (hTd.on s2832), fun H33 x33 => ⟨_, rfl, iteF ?_⟩⟩
    have s2833 : Same H28 H33 := s2832.trans x33
    refine ⟨_, rfl, _, rfl, same28 s2833, _, rfl, iteF ?_⟩
    -- one place more
    have gGv : G6 Gv = none := (s22.trans s226).free nGv
    have eG33 := s2833 _ _ eG28
    have eS33 := s2833 _ _ eS28
    have s633 := s628.trans s2833
    have hN33 := hN28.on s2833
    have hB33 := hB22.on ((s2227.trans s28).trans s2833)
    clear same28 hTd hT1 hT3 s29 x30 s2830 s31 s32 s2832 x33 eTp nTp ans e5' p5 e5 eK6 HK s25 s26 s27 nKp eG7
    refine ⟨_, rfl, .inl ⟨rfl, _, SqL.of eG33⟩, _, rfl, Gv, _, _, rfl, rfl, eG33, small1000 (by rw [List.length_map]; omega), ?_⟩
    rw [show zs.map V.str ++ [V.str b] = (zs ++ [b]).map V.str by rw [List.map_append]; rfl]
    have s634 := same_mut (o := .lst ((zs ++ [b]).map V.str)) s633 gGv
    have hN34 := hN33.lput (o := .lst ((zs ++ [b]).map V.str)) eG33
    have hB34 := hB33.lput (o := .lst ((zs ++ [b]).map V.str)) eG33
    have eG34 : (upd H33 Gv (.lst ((zs ++ [b]).map V.str))) Gv = some (.lst ((zs ++ [b]).map V.str)) := upd_same
    have eS34 : (upd H33 Gv (.lst ((zs ++ [b]).map V.str))) Sp = some (.lst (zs.map V.str)) := by rw [upd_ne SG]; exact eS33
    generalize upd H33 Gv (.lst ((zs ++ [b]).map V.str)) = H34 at s634 hN34 hB34 eG34 eS34 ⊢
    refine ⟨_, rfl, .inl ⟨rfl, _, SqL.of eS34⟩, _, rfl, Sp, _, _, rfl, rfl, eS34, small1000 (by rw [List.length_map]; omega), ?_⟩
    rw [show zs.map V.str ++ [V.str b] = (zs ++ [b]).map V.str by rw [List.map_append]; rfl]
    have s635 := same_mut (o := .lst ((zs ++ [b]).map V.str)) s634 gSp
    have hN35 := hN34.lput (o := .lst ((zs ++ [b]).map V.str)) eS34
    have hB35 := hB34.lput (o := .lst ((zs ++ [b]).map V.str)) eS34
    have eS35 : (upd H34 Sp (.lst ((zs ++ [b]).map V.str))) Sp = some (.lst ((zs ++ [b]).map V.str)) := upd_same
    have eG35 : (upd H34 Sp (.lst ((zs ++ [b]).map V.str))) Gv = some (.lst ((zs ++ [b]).map V.str)) := by rw [upd_ne (Ne.symm SG)]; exact eG34
    generalize upd H34 Sp (.lst ((zs ++ [b]).map V.str)) = H35 at s635 hN35 hB35 eG35 eS35 ⊢
    refine ⟨_, rfl, _, rfl, _, rfl, n, Hd, Gv, a, b, ts, ps, zs ++ [b], _, 6, rfl, hN.same s635, hN35, .inl eG35, ndt, hts, by decide, fun T4 H36 s36 hT4 => ?_⟩
    rw [ans_aaa (es := es) (ts := ts) (ps := ps) (bs := bs) (b := bot) (zs := zs ++ [b]) hpk haaa] at hT4
    refine ⟨_, rfl, _, rfl, _, rfl, _, rfl, l, Bd, Sp, bot, es, ts, bs, zs ++ [b], rfl, rows.on (s635.trans s36), nok.nd, h10, pm, srt, hB35.on s36, hsm, s36 _ _ eS35, hb0, hb6, fun T5 H37 s37 hT5 => ?_⟩
    exact ⟨tol_dtup (hT4.on s37) hT5, fun H38 _ => k H38⟩
end

set_option maxHeartbeats 0 in
theorem all_mk {l : PySem.W.OpenLaw} {w : World} {K : PySem.W.Frag} {h : Heap} {mg : Str → Option Value} {f_BadName f_DuplicateName f_UnknownName f_BadCount f_HasRound f_UselessLink f_Ratio f_Network f_valid_name f_as_ratio f_ordered_places f_places_behind f_useful_names f_check_ends f_check_names f_check_rounds f_check_use f_outflow f_cut_load f_check_loads f_start f_take f_shuffled f_grown f_named f_network f_ways f_loads f_amounts f_ratios f_told f_due f_BadName_init f_DuplicateName_init f_UnknownName_init f_BadCount_init f_HasRound_init f_UselessLink_init f_Ratio_init dT_Ratio_init f_Ratio_top p_Ratio_top f_Ratio_bottom p_Ratio_bottom f_Ratio_neg f_Ratio_add f_Ratio_sub f_Ratio_eq f_Network_init f_Network_names p_Network_names f_Network_places p_Network_places f_Network_getitem f_Ratio_radd f_Ratio_rsub fa f_law : Addr} {od_valid_name an_valid_name od_as_ratio an_as_ratio od_ordered_places an_ordered_places od_places_behind an_places_behind od_useful_names an_useful_names od_check_ends an_check_ends od_check_names an_check_names od_check_rounds an_check_rounds od_check_use an_check_use od_outflow an_outflow od_cut_load an_cut_load od_check_loads an_check_loads od_start an_start od_take an_take od_shuffled an_shuffled od_grown an_grown od_named an_named od_network an_network od_ways an_ways od_loads an_loads od_amounts an_amounts od_ratios an_ratios od_told an_told od_due an_due od_BadName_init an_BadName_init od_DuplicateName_init an_DuplicateName_init od_UnknownName_init an_UnknownName_init od_BadCount_init an_BadCount_init od_HasRound_init an_HasRound_init od_UselessLink_init an_UselessLink_init od_Ratio_init an_Ratio_init dd0_Ratio_init od_Ratio_top an_Ratio_top od_Ratio_bottom an_Ratio_bottom od_Ratio_neg an_Ratio_neg od_Ratio_add an_Ratio_add od_Ratio_sub an_Ratio_sub od_Ratio_eq an_Ratio_eq od_Network_init an_Network_init od_Network_names an_Network_names od_Network_places an_Network_places od_Network_getitem an_Network_getitem od_law an_law : Option Addr} {sl_valid_name sl_as_ratio sl_ordered_places sl_places_behind sl_useful_names sl_check_ends sl_check_names sl_check_rounds sl_check_use sl_outflow sl_cut_load sl_check_loads sl_start sl_take sl_shuffled sl_grown sl_named sl_network sl_ways sl_loads sl_amounts sl_ratios sl_told sl_due sl_BadName_init sl_DuplicateName_init sl_UnknownName_init sl_BadCount_init sl_HasRound_init sl_UselessLink_init sl_Ratio_init ds_Ratio_init sl_Ratio_top sl_Ratio_bottom sl_Ratio_neg sl_Ratio_add sl_Ratio_sub sl_Ratio_eq sl_Network_init sl_Network_names sl_Network_places sl_Network_getitem sl_law : Array (Option Value)} {oc_valid_name kV_valid_name dc_valid_name pm_valid_name cd_valid_name ct_valid_name oc_as_ratio kV_as_ratio dc_as_ratio pm_as_ratio cd_as_ratio ct_as_ratio oc_ordered_places kV_ordered_places dc_ordered_places pm_ordered_places cd_ordered_places ct_ordered_places oc_places_behind kV_places_behind dc_places_behind pm_places_behind cd_places_behind ct_places_behind oc_useful_names kV_useful_names dc_useful_names pm_useful_names cd_useful_names ct_useful_names oc_check_ends kV_check_ends dc_check_ends pm_check_ends cd_check_ends ct_check_ends oc_check_names kV_check_names dc_check_names pm_check_names cd_check_names ct_check_names oc_check_rounds kV_check_rounds dc_check_rounds pm_check_rounds cd_check_rounds ct_check_rounds oc_check_use kV_check_use dc_check_use pm_check_use cd_check_use ct_check_use oc_outflow kV_outflow dc_outflow pm_outflow cd_outflow ct_outflow oc_cut_load kV_cut_load dc_cut_load pm_cut_load cd_cut_load ct_cut_load oc_check_loads kV_check_loads dc_check_loads pm_check_loads cd_check_loads ct_check_loads oc_start kV_start dc_start pm_start cd_start ct_start oc_take kV_take dc_take pm_take cd_take ct_take oc_shuffled kV_shuffled dc_shuffled pm_shuffled cd_shuffled ct_shuffled oc_grown kV_grown dc_grown pm_grown cd_grown ct_grown oc_named kV_named dc_named pm_named cd_named ct_named oc_network kV_network dc_network pm_network cd_network ct_network oc_ways kV_ways dc_ways pm_ways cd_ways ct_ways oc_loads kV_loads dc_loads pm_loads cd_loads ct_loads oc_amounts kV_amounts dc_amounts pm_amounts cd_amounts ct_amounts oc_ratios kV_ratios dc_ratios pm_ratios cd_ratios ct_ratios oc_told kV_told dc_told pm_told cd_told ct_told oc_due kV_due dc_due pm_due cd_due ct_due oc_BadName_init kV_BadName_init dc_BadName_init pm_BadName_init cd_BadName_init ct_BadName_init oc_DuplicateName_init kV_DuplicateName_init dc_DuplicateName_init pm_DuplicateName_init cd_DuplicateName_init ct_DuplicateName_init oc_UnknownName_init kV_UnknownName_init dc_UnknownName_init pm_UnknownName_init cd_UnknownName_init ct_UnknownName_init oc_BadCount_init kV_BadCount_init dc_BadCount_init pm_BadCount_init cd_BadCount_init ct_BadCount_init oc_HasRound_init kV_HasRound_init dc_HasRound_init pm_HasRound_init cd_HasRound_init ct_HasRound_init oc_UselessLink_init kV_UselessLink_init dc_UselessLink_init pm_UselessLink_init cd_UselessLink_init ct_UselessLink_init oc_Ratio_init kV_Ratio_init dc_Ratio_init pm_Ratio_init cd_Ratio_init ct_Ratio_init dc0_Ratio_init oc_Ratio_top kV_Ratio_top dc_Ratio_top pm_Ratio_top cd_Ratio_top ct_Ratio_top oc_Ratio_bottom kV_Ratio_bottom dc_Ratio_bottom pm_Ratio_bottom cd_Ratio_bottom ct_Ratio_bottom oc_Ratio_neg kV_Ratio_neg dc_Ratio_neg pm_Ratio_neg cd_Ratio_neg ct_Ratio_neg oc_Ratio_add kV_Ratio_add dc_Ratio_add pm_Ratio_add cd_Ratio_add ct_Ratio_add oc_Ratio_sub kV_Ratio_sub dc_Ratio_sub pm_Ratio_sub cd_Ratio_sub ct_Ratio_sub oc_Ratio_eq kV_Ratio_eq dc_Ratio_eq pm_Ratio_eq cd_Ratio_eq ct_Ratio_eq oc_Network_init kV_Network_init dc_Network_init pm_Network_init cd_Network_init ct_Network_init oc_Network_names kV_Network_names dc_Network_names pm_Network_names cd_Network_names ct_Network_names oc_Network_places kV_Network_places dc_Network_places pm_Network_places cd_Network_places ct_Network_places oc_Network_getitem kV_Network_getitem dc_Network_getitem pm_Network_getitem cd_Network_getitem ct_Network_getitem oc_law kV_law dc_law pm_law cd_law ct_law : Value} {dt_Ratio_init tv_Network_MOST_LINKS tv_Network_MOST_PLACES t_DIGITS t_LETTERS t_LONGEST_NAME : Tok} {dn_Ratio_init : Nat} {rs_Ratio_top rs_Ratio_bottom rs_Network_names rs_Network_places : List Value} {fo_Ratio_add ro_Ratio_add fo_Ratio_sub ro_Ratio_sub : Option Value} {cdd_Ratio : ClassData} (X : K.In h) (G : h.Ns mainGlobals mg) (hfa : mg "law" = some (.ref fa))
    (a_BadName : PySem.W.nsIn K mainGlobals "BadName" = some (some (.ref f_BadName)))
    (a_DuplicateName : PySem.W.nsIn K mainGlobals "DuplicateName" = some (some (.ref f_DuplicateName)))
    (a_UnknownName : PySem.W.nsIn K mainGlobals "UnknownName" = some (some (.ref f_UnknownName)))
    (a_BadCount : PySem.W.nsIn K mainGlobals "BadCount" = some (some (.ref f_BadCount)))
    (a_HasRound : PySem.W.nsIn K mainGlobals "HasRound" = some (some (.ref f_HasRound)))
    (a_UselessLink : PySem.W.nsIn K mainGlobals "UselessLink" = some (some (.ref f_UselessLink)))
    (a_Ratio : PySem.W.nsIn K mainGlobals "Ratio" = some (some (.ref f_Ratio)))
    (pg_Ratio : PySem.W.plainGet K f_Ratio Str.empty = true)
    (hd_Ratio : PySem.W.hasDictIn K f_Ratio = true)
    (po_Ratio : PySem.W.plainOver K f_Ratio = true)
    (sa_Ratio : PySem.W.findIn K (.ref f_Ratio) "__setattr__" = some (some (.builtin "object.__setattr__")))
    (mk_Ratio : PySem.W.makesIn K f_Ratio = true)
    (kc_Ratio : PySem.W.keepIn K (.ref f_Ratio) = true)
    (hc_Ratio : PySem.W.findIn K (.ref f_Ratio) "__class__" = some (some (.builtin "object.__class__")))
    (mo_Ratio : PySem.W.mroIn K f_Ratio (.type "object") = some true)
    (ic_Ratio : PySem.W.isClsIn K f_Ratio = true)
    (ty_Ratio : PySem.W.typeIn K (.ref f_Ratio) = some (.type "type"))
    (hn_class : PySem.W.specialIn K (.builtin "object.__class__") "__get__" = some (some (.builtin "getset_descriptor.__get__")))
    (ht_class : PySem.W.takesIn K (.builtin "object.__class__") = some true)
    (na_Ratio_top : PySem.W.findIn K (.ref f_Ratio) "_top" = some none)
    (na_Ratio_bottom : PySem.W.findIn K (.ref f_Ratio) "_bottom" = some none)
    (su_Ratio_int : PySem.W.subIn K (.type "int") (.ref f_Ratio) = some false)
    (a_Network : PySem.W.nsIn K mainGlobals "Network" = some (some (.ref f_Network)))
    (pg_Network : PySem.W.plainGet K f_Network Str.empty = true)
    (hd_Network : PySem.W.hasDictIn K f_Network = true)
    (po_Network : PySem.W.plainOver K f_Network = true)
    (sa_Network : PySem.W.findIn K (.ref f_Network) "__setattr__" = some (some (.builtin "object.__setattr__")))
    (mk_Network : PySem.W.makesIn K f_Network = true)
    (kc_Network : PySem.W.keepIn K (.ref f_Network) = true)
    (hc_Network : PySem.W.findIn K (.ref f_Network) "__class__" = some (some (.builtin "object.__class__")))
    (mo_Network : PySem.W.mroIn K f_Network (.type "object") = some true)
    (ic_Network : PySem.W.isClsIn K f_Network = true)
    (ty_Network : PySem.W.typeIn K (.ref f_Network) = some (.type "type"))
    (na_Network_start : PySem.W.findIn K (.ref f_Network) "_start" = some none)
    (na_Network_end : PySem.W.findIn K (.ref f_Network) "_end" = some none)
    (na_Network_links : PySem.W.findIn K (.ref f_Network) "_links" = some none)
    (na_Network_places : PySem.W.findIn K (.ref f_Network) "_places" = some none)
    (na_Network_behind : PySem.W.findIn K (.ref f_Network) "_behind" = some none)
    (a_valid_name : PySem.W.nsIn K mainGlobals "valid_name" = some (some (.ref f_valid_name)))
    (l_valid_name : K.lookup f_valid_name = some ⟨oc_valid_name, od_valid_name, .func (PySem.W.fnOf "valid_name" "valid_name" (defArgs s_valid_name) (defBody s_valid_name) (defScope s_valid_name) .none kV_valid_name dc_valid_name pm_valid_name an_valid_name cd_valid_name ct_valid_name), sl_valid_name⟩)
    (c_valid_name : PySem.W.codeIn K cd_valid_name "valid_name" = true)
    (k_valid_name : PySem.W.keepIn K (.ref f_valid_name) = true)
    (a_as_ratio : PySem.W.nsIn K mainGlobals "as_ratio" = some (some (.ref f_as_ratio)))
    (l_as_ratio : K.lookup f_as_ratio = some ⟨oc_as_ratio, od_as_ratio, .func (PySem.W.fnOf "as_ratio" "as_ratio" (defArgs s_as_ratio) (defBody s_as_ratio) (defScope s_as_ratio) .none kV_as_ratio dc_as_ratio pm_as_ratio an_as_ratio cd_as_ratio ct_as_ratio), sl_as_ratio⟩)
    (c_as_ratio : PySem.W.codeIn K cd_as_ratio "as_ratio" = true)
    (k_as_ratio : PySem.W.keepIn K (.ref f_as_ratio) = true)
    (a_ordered_places : PySem.W.nsIn K mainGlobals "ordered_places" = some (some (.ref f_ordered_places)))
    (l_ordered_places : K.lookup f_ordered_places = some ⟨oc_ordered_places, od_ordered_places, .func (PySem.W.fnOf "ordered_places" "ordered_places" (defArgs s_ordered_places) (defBody s_ordered_places) (defScope s_ordered_places) .none kV_ordered_places dc_ordered_places pm_ordered_places an_ordered_places cd_ordered_places ct_ordered_places), sl_ordered_places⟩)
    (c_ordered_places : PySem.W.codeIn K cd_ordered_places "ordered_places" = true)
    (k_ordered_places : PySem.W.keepIn K (.ref f_ordered_places) = true)
    (a_places_behind : PySem.W.nsIn K mainGlobals "places_behind" = some (some (.ref f_places_behind)))
    (l_places_behind : K.lookup f_places_behind = some ⟨oc_places_behind, od_places_behind, .func (PySem.W.fnOf "places_behind" "places_behind" (defArgs s_places_behind) (defBody s_places_behind) (defScope s_places_behind) .none kV_places_behind dc_places_behind pm_places_behind an_places_behind cd_places_behind ct_places_behind), sl_places_behind⟩)
    (c_places_behind : PySem.W.codeIn K cd_places_behind "places_behind" = true)
    (k_places_behind : PySem.W.keepIn K (.ref f_places_behind) = true)
    (a_useful_names : PySem.W.nsIn K mainGlobals "useful_names" = some (some (.ref f_useful_names)))
    (l_useful_names : K.lookup f_useful_names = some ⟨oc_useful_names, od_useful_names, .func (PySem.W.fnOf "useful_names" "useful_names" (defArgs s_useful_names) (defBody s_useful_names) (defScope s_useful_names) .none kV_useful_names dc_useful_names pm_useful_names an_useful_names cd_useful_names ct_useful_names), sl_useful_names⟩)
    (c_useful_names : PySem.W.codeIn K cd_useful_names "useful_names" = true)
    (k_useful_names : PySem.W.keepIn K (.ref f_useful_names) = true)
    (a_check_ends : PySem.W.nsIn K mainGlobals "check_ends" = some (some (.ref f_check_ends)))
    (l_check_ends : K.lookup f_check_ends = some ⟨oc_check_ends, od_check_ends, .func (PySem.W.fnOf "check_ends" "check_ends" (defArgs s_check_ends) (defBody s_check_ends) (defScope s_check_ends) .none kV_check_ends dc_check_ends pm_check_ends an_check_ends cd_check_ends ct_check_ends), sl_check_ends⟩)
    (c_check_ends : PySem.W.codeIn K cd_check_ends "check_ends" = true)
    (k_check_ends : PySem.W.keepIn K (.ref f_check_ends) = true)
    (a_check_names : PySem.W.nsIn K mainGlobals "check_names" = some (some (.ref f_check_names)))
    (l_check_names : K.lookup f_check_names = some ⟨oc_check_names, od_check_names, .func (PySem.W.fnOf "check_names" "check_names" (defArgs s_check_names) (defBody s_check_names) (defScope s_check_names) .none kV_check_names dc_check_names pm_check_names an_check_names cd_check_names ct_check_names), sl_check_names⟩)
    (c_check_names : PySem.W.codeIn K cd_check_names "check_names" = true)
    (k_check_names : PySem.W.keepIn K (.ref f_check_names) = true)
    (a_check_rounds : PySem.W.nsIn K mainGlobals "check_rounds" = some (some (.ref f_check_rounds)))
    (l_check_rounds : K.lookup f_check_rounds = some ⟨oc_check_rounds, od_check_rounds, .func (PySem.W.fnOf "check_rounds" "check_rounds" (defArgs s_check_rounds) (defBody s_check_rounds) (defScope s_check_rounds) .none kV_check_rounds dc_check_rounds pm_check_rounds an_check_rounds cd_check_rounds ct_check_rounds), sl_check_rounds⟩)
    (c_check_rounds : PySem.W.codeIn K cd_check_rounds "check_rounds" = true)
    (k_check_rounds : PySem.W.keepIn K (.ref f_check_rounds) = true)
    (a_check_use : PySem.W.nsIn K mainGlobals "check_use" = some (some (.ref f_check_use)))
    (l_check_use : K.lookup f_check_use = some ⟨oc_check_use, od_check_use, .func (PySem.W.fnOf "check_use" "check_use" (defArgs s_check_use) (defBody s_check_use) (defScope s_check_use) .none kV_check_use dc_check_use pm_check_use an_check_use cd_check_use ct_check_use), sl_check_use⟩)
    (c_check_use : PySem.W.codeIn K cd_check_use "check_use" = true)
    (k_check_use : PySem.W.keepIn K (.ref f_check_use) = true)
    (a_outflow : PySem.W.nsIn K mainGlobals "outflow" = some (some (.ref f_outflow)))
    (l_outflow : K.lookup f_outflow = some ⟨oc_outflow, od_outflow, .func (PySem.W.fnOf "outflow" "outflow" (defArgs s_outflow) (defBody s_outflow) (defScope s_outflow) .none kV_outflow dc_outflow pm_outflow an_outflow cd_outflow ct_outflow), sl_outflow⟩)
    (c_outflow : PySem.W.codeIn K cd_outflow "outflow" = true)
    (k_outflow : PySem.W.keepIn K (.ref f_outflow) = true)
    (a_cut_load : PySem.W.nsIn K mainGlobals "cut_load" = some (some (.ref f_cut_load)))
    (l_cut_load : K.lookup f_cut_load = some ⟨oc_cut_load, od_cut_load, .func (PySem.W.fnOf "cut_load" "cut_load" (defArgs s_cut_load) (defBody s_cut_load) (defScope s_cut_load) .none kV_cut_load dc_cut_load pm_cut_load an_cut_load cd_cut_load ct_cut_load), sl_cut_load⟩)
    (c_cut_load : PySem.W.codeIn K cd_cut_load "cut_load" = true)
    (k_cut_load : PySem.W.keepIn K (.ref f_cut_load) = true)
    (a_check_loads : PySem.W.nsIn K mainGlobals "check_loads" = some (some (.ref f_check_loads)))
    (l_check_loads : K.lookup f_check_loads = some ⟨oc_check_loads, od_check_loads, .func (PySem.W.fnOf "check_loads" "check_loads" (defArgs s_check_loads) (defBody s_check_loads) (defScope s_check_loads) .none kV_check_loads dc_check_loads pm_check_loads an_check_loads cd_check_loads ct_check_loads), sl_check_loads⟩)
    (c_check_loads : PySem.W.codeIn K cd_check_loads "check_loads" = true)
    (k_check_loads : PySem.W.keepIn K (.ref f_check_loads) = true)
    (a_start : PySem.W.nsIn K mainGlobals "_law_start" = some (some (.ref f_start)))
    (l_start : K.lookup f_start = some ⟨oc_start, od_start, .func (PySem.W.fnOf "_law_start" "_law_start" (defArgs s_start) (defBody s_start) (defScope s_start) .none kV_start dc_start pm_start an_start cd_start ct_start), sl_start⟩)
    (c_start : PySem.W.codeIn K cd_start "_law_start" = true)
    (k_start : PySem.W.keepIn K (.ref f_start) = true)
    (a_take : PySem.W.nsIn K mainGlobals "_law_take" = some (some (.ref f_take)))
    (l_take : K.lookup f_take = some ⟨oc_take, od_take, .func (PySem.W.fnOf "_law_take" "_law_take" (defArgs s_take) (defBody s_take) (defScope s_take) .none kV_take dc_take pm_take an_take cd_take ct_take), sl_take⟩)
    (c_take : PySem.W.codeIn K cd_take "_law_take" = true)
    (k_take : PySem.W.keepIn K (.ref f_take) = true)
    (a_shuffled : PySem.W.nsIn K mainGlobals "_law_shuffled" = some (some (.ref f_shuffled)))
    (l_shuffled : K.lookup f_shuffled = some ⟨oc_shuffled, od_shuffled, .func (PySem.W.fnOf "_law_shuffled" "_law_shuffled" (defArgs s_shuffled) (defBody s_shuffled) (defScope s_shuffled) .none kV_shuffled dc_shuffled pm_shuffled an_shuffled cd_shuffled ct_shuffled), sl_shuffled⟩)
    (c_shuffled : PySem.W.codeIn K cd_shuffled "_law_shuffled" = true)
    (k_shuffled : PySem.W.keepIn K (.ref f_shuffled) = true)
    (a_grown : PySem.W.nsIn K mainGlobals "_law_grown" = some (some (.ref f_grown)))
    (l_grown : K.lookup f_grown = some ⟨oc_grown, od_grown, .func (PySem.W.fnOf "_law_grown" "_law_grown" (defArgs s_grown) (defBody s_grown) (defScope s_grown) .none kV_grown dc_grown pm_grown an_grown cd_grown ct_grown), sl_grown⟩)
    (c_grown : PySem.W.codeIn K cd_grown "_law_grown" = true)
    (k_grown : PySem.W.keepIn K (.ref f_grown) = true)
    (a_named : PySem.W.nsIn K mainGlobals "_law_named" = some (some (.ref f_named)))
    (l_named : K.lookup f_named = some ⟨oc_named, od_named, .func (PySem.W.fnOf "_law_named" "_law_named" (defArgs s_named) (defBody s_named) (defScope s_named) .none kV_named dc_named pm_named an_named cd_named ct_named), sl_named⟩)
    (c_named : PySem.W.codeIn K cd_named "_law_named" = true)
    (k_named : PySem.W.keepIn K (.ref f_named) = true)
    (a_network : PySem.W.nsIn K mainGlobals "_law_network" = some (some (.ref f_network)))
    (l_network : K.lookup f_network = some ⟨oc_network, od_network, .func (PySem.W.fnOf "_law_network" "_law_network" (defArgs s_network) (defBody s_network) (defScope s_network) .none kV_network dc_network pm_network an_network cd_network ct_network), sl_network⟩)
    (c_network : PySem.W.codeIn K cd_network "_law_network" = true)
    (k_network : PySem.W.keepIn K (.ref f_network) = true)
    (a_ways : PySem.W.nsIn K mainGlobals "_law_ways" = some (some (.ref f_ways)))
    (l_ways : K.lookup f_ways = some ⟨oc_ways, od_ways, .func (PySem.W.fnOf "_law_ways" "_law_ways" (defArgs s_ways) (defBody s_ways) (defScope s_ways) .none kV_ways dc_ways pm_ways an_ways cd_ways ct_ways), sl_ways⟩)
    (c_ways : PySem.W.codeIn K cd_ways "_law_ways" = true)
    (k_ways : PySem.W.keepIn K (.ref f_ways) = true)
    (a_loads : PySem.W.nsIn K mainGlobals "_law_loads" = some (some (.ref f_loads)))
    (l_loads : K.lookup f_loads = some ⟨oc_loads, od_loads, .func (PySem.W.fnOf "_law_loads" "_law_loads" (defArgs s_loads) (defBody s_loads) (defScope s_loads) .none kV_loads dc_loads pm_loads an_loads cd_loads ct_loads), sl_loads⟩)
    (c_loads : PySem.W.codeIn K cd_loads "_law_loads" = true)
    (k_loads : PySem.W.keepIn K (.ref f_loads) = true)
    (a_amounts : PySem.W.nsIn K mainGlobals "_law_amounts" = some (some (.ref f_amounts)))
    (l_amounts : K.lookup f_amounts = some ⟨oc_amounts, od_amounts, .func (PySem.W.fnOf "_law_amounts" "_law_amounts" (defArgs s_amounts) (defBody s_amounts) (defScope s_amounts) .none kV_amounts dc_amounts pm_amounts an_amounts cd_amounts ct_amounts), sl_amounts⟩)
    (c_amounts : PySem.W.codeIn K cd_amounts "_law_amounts" = true)
    (k_amounts : PySem.W.keepIn K (.ref f_amounts) = true)
    (a_ratios : PySem.W.nsIn K mainGlobals "_law_ratios" = some (some (.ref f_ratios)))
    (l_ratios : K.lookup f_ratios = some ⟨oc_ratios, od_ratios, .func (PySem.W.fnOf "_law_ratios" "_law_ratios" (defArgs s_ratios) (defBody s_ratios) (defScope s_ratios) .none kV_ratios dc_ratios pm_ratios an_ratios cd_ratios ct_ratios), sl_ratios⟩)
    (c_ratios : PySem.W.codeIn K cd_ratios "_law_ratios" = true)
    (k_ratios : PySem.W.keepIn K (.ref f_ratios) = true)
    (a_told : PySem.W.nsIn K mainGlobals "_law_told" = some (some (.ref f_told)))
    (l_told : K.lookup f_told = some ⟨oc_told, od_told, .func (PySem.W.fnOf "_law_told" "_law_told" (defArgs s_told) (defBody s_told) (defScope s_told) .none kV_told dc_told pm_told an_told cd_told ct_told), sl_told⟩)
    (c_told : PySem.W.codeIn K cd_told "_law_told" = true)
    (k_told : PySem.W.keepIn K (.ref f_told) = true)
    (a_due : PySem.W.nsIn K mainGlobals "_law_due" = some (some (.ref f_due)))
    (l_due : K.lookup f_due = some ⟨oc_due, od_due, .func (PySem.W.fnOf "_law_due" "_law_due" (defArgs s_due) (defBody s_due) (defScope s_due) .none kV_due dc_due pm_due an_due cd_due ct_due), sl_due⟩)
    (c_due : PySem.W.codeIn K cd_due "_law_due" = true)
    (k_due : PySem.W.keepIn K (.ref f_due) = true)
    (a_BadName_init : PySem.W.findIn K (.ref f_BadName) "__init__" = some (some (.ref f_BadName_init)))
    (i_BadName_init : PySem.W.isFn K (.ref f_BadName_init) = true)
    (l_BadName_init : K.lookup f_BadName_init = some ⟨oc_BadName_init, od_BadName_init, .func (PySem.W.fnOf "__init__" "BadName.__init__" (defArgs s_BadName_init) (defBody s_BadName_init) (defScope s_BadName_init) .none kV_BadName_init dc_BadName_init pm_BadName_init an_BadName_init cd_BadName_init ct_BadName_init), sl_BadName_init⟩)
    (c_BadName_init : PySem.W.codeIn K cd_BadName_init "BadName.__init__" = true)
    (k_BadName_init : PySem.W.keepIn K (.ref f_BadName_init) = true)
    (a_DuplicateName_init : PySem.W.findIn K (.ref f_DuplicateName) "__init__" = some (some (.ref f_DuplicateName_init)))
    (i_DuplicateName_init : PySem.W.isFn K (.ref f_DuplicateName_init) = true)
    (l_DuplicateName_init : K.lookup f_DuplicateName_init = some ⟨oc_DuplicateName_init, od_DuplicateName_init, .func (PySem.W.fnOf "__init__" "DuplicateName.__init__" (defArgs s_DuplicateName_init) (defBody s_DuplicateName_init) (defScope s_DuplicateName_init) .none kV_DuplicateName_init dc_DuplicateName_init pm_DuplicateName_init an_DuplicateName_init cd_DuplicateName_init ct_DuplicateName_init), sl_DuplicateName_init⟩)
    (c_DuplicateName_init : PySem.W.codeIn K cd_DuplicateName_init "DuplicateName.__init__" = true)
    (k_DuplicateName_init : PySem.W.keepIn K (.ref f_DuplicateName_init) = true)
    (a_UnknownName_init : PySem.W.findIn K (.ref f_UnknownName) "__init__" = some (some (.ref f_UnknownName_init)))
    (i_UnknownName_init : PySem.W.isFn K (.ref f_UnknownName_init) = true)
    (l_UnknownName_init : K.lookup f_UnknownName_init = some ⟨oc_UnknownName_init, od_UnknownName_init, .func (PySem.W.fnOf "__init__" "UnknownName.__init__" (defArgs s_UnknownName_init) (defBody s_UnknownName_init) (defScope s_UnknownName_init) .none kV_UnknownName_init dc_UnknownName_init pm_UnknownName_init an_UnknownName_init cd_UnknownName_init ct_UnknownName_init), sl_UnknownName_init⟩)
    (c_UnknownName_init : PySem.W.codeIn K cd_UnknownName_init "UnknownName.__init__" = true)
    (k_UnknownName_init : PySem.W.keepIn K (.ref f_UnknownName_init) = true)
    (a_BadCount_init : PySem.W.findIn K (.ref f_BadCount) "__init__" = some (some (.ref f_BadCount_init)))
    (i_BadCount_init : PySem.W.isFn K (.ref f_BadCount_init) = true)
    (l_BadCount_init : K.lookup f_BadCount_init = some ⟨oc_BadCount_init, od_BadCount_init, .func (PySem.W.fnOf "__init__" "BadCount.__init__" (defArgs s_BadCount_init) (defBody s_BadCount_init) (defScope s_BadCount_init) .none kV_BadCount_init dc_BadCount_init pm_BadCount_init an_BadCount_init cd_BadCount_init ct_BadCount_init), sl_BadCount_init⟩)
    (c_BadCount_init : PySem.W.codeIn K cd_BadCount_init "BadCount.__init__" = true)
    (k_BadCount_init : PySem.W.keepIn K (.ref f_BadCount_init) = true)
    (a_HasRound_init : PySem.W.findIn K (.ref f_HasRound) "__init__" = some (some (.ref f_HasRound_init)))
    (i_HasRound_init : PySem.W.isFn K (.ref f_HasRound_init) = true)
    (l_HasRound_init : K.lookup f_HasRound_init = some ⟨oc_HasRound_init, od_HasRound_init, .func (PySem.W.fnOf "__init__" "HasRound.__init__" (defArgs s_HasRound_init) (defBody s_HasRound_init) (defScope s_HasRound_init) .none kV_HasRound_init dc_HasRound_init pm_HasRound_init an_HasRound_init cd_HasRound_init ct_HasRound_init), sl_HasRound_init⟩)
    (c_HasRound_init : PySem.W.codeIn K cd_HasRound_init "HasRound.__init__" = true)
    (k_HasRound_init : PySem.W.keepIn K (.ref f_HasRound_init) = true)
    (a_UselessLink_init : PySem.W.findIn K (.ref f_UselessLink) "__init__" = some (some (.ref f_UselessLink_init)))
    (i_UselessLink_init : PySem.W.isFn K (.ref f_UselessLink_init) = true)
    (l_UselessLink_init : K.lookup f_UselessLink_init = some ⟨oc_UselessLink_init, od_UselessLink_init, .func (PySem.W.fnOf "__init__" "UselessLink.__init__" (defArgs s_UselessLink_init) (defBody s_UselessLink_init) (defScope s_UselessLink_init) .none kV_UselessLink_init dc_UselessLink_init pm_UselessLink_init an_UselessLink_init cd_UselessLink_init ct_UselessLink_init), sl_UselessLink_init⟩)
    (c_UselessLink_init : PySem.W.codeIn K cd_UselessLink_init "UselessLink.__init__" = true)
    (k_UselessLink_init : PySem.W.keepIn K (.ref f_UselessLink_init) = true)
    (a_Ratio_init : PySem.W.findIn K (.ref f_Ratio) "__init__" = some (some (.ref f_Ratio_init)))
    (i_Ratio_init : PySem.W.isFn K (.ref f_Ratio_init) = true)
    (l_Ratio_init : K.lookup f_Ratio_init = some ⟨oc_Ratio_init, od_Ratio_init, .func (PySem.W.fnOf "__init__" "Ratio.__init__" (defArgs s_Ratio_init) (defBody s_Ratio_init) (defScope s_Ratio_init) (.ref dT_Ratio_init) kV_Ratio_init dc_Ratio_init pm_Ratio_init an_Ratio_init cd_Ratio_init ct_Ratio_init), sl_Ratio_init⟩)
    (c_Ratio_init : PySem.W.codeIn K cd_Ratio_init "Ratio.__init__" = true)
    (k_Ratio_init : PySem.W.keepIn K (.ref f_Ratio_init) = true)
    (t_Ratio_init : K.lookup dT_Ratio_init = some ⟨dc0_Ratio_init, dd0_Ratio_init, .seq #[.int 1 dt_Ratio_init] dn_Ratio_init, ds_Ratio_init⟩)
    (a_Ratio_top : PySem.W.findIn K (.ref f_Ratio) "top" = some (some (.ref p_Ratio_top)))
    (pg_Ratio_top : PySem.W.specialIn K (.ref p_Ratio_top) "__get__" = some (some (.builtin "property.__get__")))
    (pt_Ratio_top : PySem.W.takesIn K (.ref p_Ratio_top) = some true)
    (pr_Ratio_top : PySem.W.recIn K p_Ratio_top "property" = some (.ref f_Ratio_top :: rs_Ratio_top))
    (l_Ratio_top : K.lookup f_Ratio_top = some ⟨oc_Ratio_top, od_Ratio_top, .func (PySem.W.fnOf "top" "Ratio.top" (defArgs s_Ratio_top) (defBody s_Ratio_top) (defScope s_Ratio_top) .none kV_Ratio_top dc_Ratio_top pm_Ratio_top an_Ratio_top cd_Ratio_top ct_Ratio_top), sl_Ratio_top⟩)
    (c_Ratio_top : PySem.W.codeIn K cd_Ratio_top "Ratio.top" = true)
    (k_Ratio_top : PySem.W.keepIn K (.ref f_Ratio_top) = true)
    (a_Ratio_bottom : PySem.W.findIn K (.ref f_Ratio) "bottom" = some (some (.ref p_Ratio_bottom)))
    (pg_Ratio_bottom : PySem.W.specialIn K (.ref p_Ratio_bottom) "__get__" = some (some (.builtin "property.__get__")))
    (pt_Ratio_bottom : PySem.W.takesIn K (.ref p_Ratio_bottom) = some true)
    (pr_Ratio_bottom : PySem.W.recIn K p_Ratio_bottom "property" = some (.ref f_Ratio_bottom :: rs_Ratio_bottom))
    (l_Ratio_bottom : K.lookup f_Ratio_bottom = some ⟨oc_Ratio_bottom, od_Ratio_bottom, .func (PySem.W.fnOf "bottom" "Ratio.bottom" (defArgs s_Ratio_bottom) (defBody s_Ratio_bottom) (defScope s_Ratio_bottom) .none kV_Ratio_bottom dc_Ratio_bottom pm_Ratio_bottom an_Ratio_bottom cd_Ratio_bottom ct_Ratio_bottom), sl_Ratio_bottom⟩)
    (c_Ratio_bottom : PySem.W.codeIn K cd_Ratio_bottom "Ratio.bottom" = true)
    (k_Ratio_bottom : PySem.W.keepIn K (.ref f_Ratio_bottom) = true)
    (a_Ratio_neg : PySem.W.findIn K (.ref f_Ratio) "__neg__" = some (some (.ref f_Ratio_neg)))
    (i_Ratio_neg : PySem.W.isFn K (.ref f_Ratio_neg) = true)
    (l_Ratio_neg : K.lookup f_Ratio_neg = some ⟨oc_Ratio_neg, od_Ratio_neg, .func (PySem.W.fnOf "__neg__" "Ratio.__neg__" (defArgs s_Ratio_neg) (defBody s_Ratio_neg) (defScope s_Ratio_neg) .none kV_Ratio_neg dc_Ratio_neg pm_Ratio_neg an_Ratio_neg cd_Ratio_neg ct_Ratio_neg), sl_Ratio_neg⟩)
    (c_Ratio_neg : PySem.W.codeIn K cd_Ratio_neg "Ratio.__neg__" = true)
    (k_Ratio_neg : PySem.W.keepIn K (.ref f_Ratio_neg) = true)
    (a_Ratio_add : PySem.W.findIn K (.ref f_Ratio) "__add__" = some (some (.ref f_Ratio_add)))
    (i_Ratio_add : PySem.W.isFn K (.ref f_Ratio_add) = true)
    (l_Ratio_add : K.lookup f_Ratio_add = some ⟨oc_Ratio_add, od_Ratio_add, .func (PySem.W.fnOf "__add__" "Ratio.__add__" (defArgs s_Ratio_add) (defBody s_Ratio_add) (defScope s_Ratio_add) .none kV_Ratio_add dc_Ratio_add pm_Ratio_add an_Ratio_add cd_Ratio_add ct_Ratio_add), sl_Ratio_add⟩)
    (c_Ratio_add : PySem.W.codeIn K cd_Ratio_add "Ratio.__add__" = true)
    (k_Ratio_add : PySem.W.keepIn K (.ref f_Ratio_add) = true)
    (a_Ratio_sub : PySem.W.findIn K (.ref f_Ratio) "__sub__" = some (some (.ref f_Ratio_sub)))
    (i_Ratio_sub : PySem.W.isFn K (.ref f_Ratio_sub) = true)
    (l_Ratio_sub : K.lookup f_Ratio_sub = some ⟨oc_Ratio_sub, od_Ratio_sub, .func (PySem.W.fnOf "__sub__" "Ratio.__sub__" (defArgs s_Ratio_sub) (defBody s_Ratio_sub) (defScope s_Ratio_sub) .none kV_Ratio_sub dc_Ratio_sub pm_Ratio_sub an_Ratio_sub cd_Ratio_sub ct_Ratio_sub), sl_Ratio_sub⟩)
    (c_Ratio_sub : PySem.W.codeIn K cd_Ratio_sub "Ratio.__sub__" = true)
    (k_Ratio_sub : PySem.W.keepIn K (.ref f_Ratio_sub) = true)
    (a_Ratio_eq : PySem.W.findIn K (.ref f_Ratio) "__eq__" = some (some (.ref f_Ratio_eq)))
    (i_Ratio_eq : PySem.W.isFn K (.ref f_Ratio_eq) = true)
    (l_Ratio_eq : K.lookup f_Ratio_eq = some ⟨oc_Ratio_eq, od_Ratio_eq, .func (PySem.W.fnOf "__eq__" "Ratio.__eq__" (defArgs s_Ratio_eq) (defBody s_Ratio_eq) (defScope s_Ratio_eq) .none kV_Ratio_eq dc_Ratio_eq pm_Ratio_eq an_Ratio_eq cd_Ratio_eq ct_Ratio_eq), sl_Ratio_eq⟩)
    (c_Ratio_eq : PySem.W.codeIn K cd_Ratio_eq "Ratio.__eq__" = true)
    (k_Ratio_eq : PySem.W.keepIn K (.ref f_Ratio_eq) = true)
    (a_Network_init : PySem.W.findIn K (.ref f_Network) "__init__" = some (some (.ref f_Network_init)))
    (i_Network_init : PySem.W.isFn K (.ref f_Network_init) = true)
    (l_Network_init : K.lookup f_Network_init = some ⟨oc_Network_init, od_Network_init, .func (PySem.W.fnOf "__init__" "Network.__init__" (defArgs s_Network_init) (defBody s_Network_init) (defScope s_Network_init) .none kV_Network_init dc_Network_init pm_Network_init an_Network_init cd_Network_init ct_Network_init), sl_Network_init⟩)
    (c_Network_init : PySem.W.codeIn K cd_Network_init "Network.__init__" = true)
    (k_Network_init : PySem.W.keepIn K (.ref f_Network_init) = true)
    (a_Network_names : PySem.W.findIn K (.ref f_Network) "names" = some (some (.ref p_Network_names)))
    (pg_Network_names : PySem.W.specialIn K (.ref p_Network_names) "__get__" = some (some (.builtin "property.__get__")))
    (pt_Network_names : PySem.W.takesIn K (.ref p_Network_names) = some true)
    (pr_Network_names : PySem.W.recIn K p_Network_names "property" = some (.ref f_Network_names :: rs_Network_names))
    (l_Network_names : K.lookup f_Network_names = some ⟨oc_Network_names, od_Network_names, .func (PySem.W.fnOf "names" "Network.names" (defArgs s_Network_names) (defBody s_Network_names) (defScope s_Network_names) .none kV_Network_names dc_Network_names pm_Network_names an_Network_names cd_Network_names ct_Network_names), sl_Network_names⟩)
    (c_Network_names : PySem.W.codeIn K cd_Network_names "Network.names" = true)
    (k_Network_names : PySem.W.keepIn K (.ref f_Network_names) = true)
    (a_Network_places : PySem.W.findIn K (.ref f_Network) "places" = some (some (.ref p_Network_places)))
    (pg_Network_places : PySem.W.specialIn K (.ref p_Network_places) "__get__" = some (some (.builtin "property.__get__")))
    (pt_Network_places : PySem.W.takesIn K (.ref p_Network_places) = some true)
    (pr_Network_places : PySem.W.recIn K p_Network_places "property" = some (.ref f_Network_places :: rs_Network_places))
    (l_Network_places : K.lookup f_Network_places = some ⟨oc_Network_places, od_Network_places, .func (PySem.W.fnOf "places" "Network.places" (defArgs s_Network_places) (defBody s_Network_places) (defScope s_Network_places) .none kV_Network_places dc_Network_places pm_Network_places an_Network_places cd_Network_places ct_Network_places), sl_Network_places⟩)
    (c_Network_places : PySem.W.codeIn K cd_Network_places "Network.places" = true)
    (k_Network_places : PySem.W.keepIn K (.ref f_Network_places) = true)
    (a_Network_getitem : PySem.W.findIn K (.ref f_Network) "__getitem__" = some (some (.ref f_Network_getitem)))
    (i_Network_getitem : PySem.W.isFn K (.ref f_Network_getitem) = true)
    (l_Network_getitem : K.lookup f_Network_getitem = some ⟨oc_Network_getitem, od_Network_getitem, .func (PySem.W.fnOf "__getitem__" "Network.__getitem__" (defArgs s_Network_getitem) (defBody s_Network_getitem) (defScope s_Network_getitem) .none kV_Network_getitem dc_Network_getitem pm_Network_getitem an_Network_getitem cd_Network_getitem ct_Network_getitem), sl_Network_getitem⟩)
    (c_Network_getitem : PySem.W.codeIn K cd_Network_getitem "Network.__getitem__" = true)
    (k_Network_getitem : PySem.W.keepIn K (.ref f_Network_getitem) = true)
    (sf_Ratio : PySem.W.selfFirst K f_Ratio = true)
    (us_Ratio : PySem.W.subIn K (.ref f_Ratio) (.type "int") = some false)
    (a_Ratio_radd : PySem.W.findIn K (.ref f_Ratio) "__radd__" = some (some (.ref f_Ratio_radd)))
    (i_Ratio_radd : PySem.W.isFn K (.ref f_Ratio_radd) = true)
    (i1_Ratio_add : PySem.W.findIn K (.type "int") "__add__" = some fo_Ratio_add)
    (i2_Ratio_add : PySem.W.findIn K (.type "int") "__radd__" = some ro_Ratio_add)
    (a_Ratio_rsub : PySem.W.findIn K (.ref f_Ratio) "__rsub__" = some (some (.ref f_Ratio_rsub)))
    (i_Ratio_rsub : PySem.W.isFn K (.ref f_Ratio_rsub) = true)
    (i1_Ratio_sub : PySem.W.findIn K (.type "int") "__sub__" = some fo_Ratio_sub)
    (i2_Ratio_sub : PySem.W.findIn K (.type "int") "__rsub__" = some ro_Ratio_sub)
    (ot_Ratio_int : PySem.W.subIn K (.ref f_Ratio) (.type "int") = some false)
    (ot_Ratio_str : PySem.W.subIn K (.ref f_Ratio) (.type "str") = some false)
    (ot_Ratio_NoneType : PySem.W.subIn K (.ref f_Ratio) (.type "NoneType") = some false)
    (ot_Ratio_tuple : PySem.W.subIn K (.ref f_Ratio) (.type "tuple") = some false)
    (ot_Ratio_list : PySem.W.subIn K (.ref f_Ratio) (.type "list") = some false)
    (ne_Ratio : PySem.W.findIn K (.ref f_Ratio) "__ne__" = some (some (.builtin "object.__ne__")))
    (ob_Ratio : PySem.W.subIn K (.ref f_Ratio) (.type "object") = some true)
    (rd_Network : PySem.W.readsIn K f_Network (.type "type") = true)
    (ga_Network : PySem.W.specialIn K (.ref f_Network) "__getattribute__" = some (some (.builtin "type.__getattribute__")))
    (cw_Network_MOST_LINKS : PySem.W.findCls K (.ref f_Network) (.type "type") "MOST_LINKS" = some (.val (.int 10 tv_Network_MOST_LINKS)))
    (cw_Network_MOST_PLACES : PySem.W.findCls K (.ref f_Network) (.type "type") "MOST_PLACES" = some (.val (.int 8 tv_Network_MOST_PLACES)))
    (fi_Network_getitem : PySem.W.fnIn K f_Network_getitem = true)
    (ns_Network_getitem : PySem.W.noSeq K f_Network = true)
    (cc_Ratio : PySem.W.clsIn K f_Ratio = some cdd_Ratio)
    (mr_Ratio : cdd_Ratio.mro = [.ref f_Ratio, .type "object"])
    (no1_Ratio_add : PySem.W.findIn K (.ref f_Ratio) "__iadd__" = some none)
    (no2_Ratio_add : PySem.W.findIn K (.type "object") "__iadd__" = some none)
    (no1_Ratio_sub : PySem.W.findIn K (.ref f_Ratio) "__isub__" = some none)
    (no2_Ratio_sub : PySem.W.findIn K (.type "object") "__isub__" = some none)
    (x_BadName : ∃ nm q N bs bm sn sub ab col dd k0 k1 k2 k3 k5, K.lookup f_BadName = some (excClassObj nm q f_BadName N bs bm true sn sub ab col dd k0 k1 k2 k3 k5 "ValueError.__new__") ∧ PySem.HandSPX.refsVE bm = true)
    (xs_BadName : PySem.W.findIn K (.ref f_BadName) "__setattr__" = some (some (.builtin "object.__setattr__")))
    (xe_BadName : PySem.W.subIn K (.ref f_BadName) (.type "BaseException") = some true)
    (xt_BadName : PySem.W.typeIn K (.ref f_BadName) = some (.type "type"))
    (xk_BadName : PySem.W.keepIn K (.ref f_BadName) = true)
    (xg_BadName : PySem.W.findIn K (.ref f_BadName) "__getattribute__" = some (some (.builtin "BaseException.__getattribute__")))
    (xh_BadName : PySem.W.findIn K (.ref f_BadName) "__getattr__" = some none)
    (xd_BadName : PySem.W.hasDictIn K f_BadName = true)
    (xc_BadName : PySem.W.findIn K (.ref f_BadName) "__class__" = some (some (.builtin "object.__class__")))
    (xm_BadName : PySem.W.mroIn K f_BadName (.type "object") = some true)
    (xi_BadName : PySem.W.isClsIn K f_BadName = true)
    (xf_BadName : PySem.W.typeIn K (.ref f_BadName_init) = some (.type "function"))
    (no_BadName_name : PySem.W.findIn K (.ref f_BadName) "name" = some none)
    (x_DuplicateName : ∃ nm q N bs bm sn sub ab col dd k0 k1 k2 k3 k5, K.lookup f_DuplicateName = some (excClassObj nm q f_DuplicateName N bs bm true sn sub ab col dd k0 k1 k2 k3 k5 "ValueError.__new__") ∧ PySem.HandSPX.refsVE bm = true)
    (xs_DuplicateName : PySem.W.findIn K (.ref f_DuplicateName) "__setattr__" = some (some (.builtin "object.__setattr__")))
    (xe_DuplicateName : PySem.W.subIn K (.ref f_DuplicateName) (.type "BaseException") = some true)
    (xt_DuplicateName : PySem.W.typeIn K (.ref f_DuplicateName) = some (.type "type"))
    (xk_DuplicateName : PySem.W.keepIn K (.ref f_DuplicateName) = true)
    (xg_DuplicateName : PySem.W.findIn K (.ref f_DuplicateName) "__getattribute__" = some (some (.builtin "BaseException.__getattribute__")))
    (xh_DuplicateName : PySem.W.findIn K (.ref f_DuplicateName) "__getattr__" = some none)
    (xd_DuplicateName : PySem.W.hasDictIn K f_DuplicateName = true)
    (xc_DuplicateName : PySem.W.findIn K (.ref f_DuplicateName) "__class__" = some (some (.builtin "object.__class__")))
    (xm_DuplicateName : PySem.W.mroIn K f_DuplicateName (.type "object") = some true)
    (xi_DuplicateName : PySem.W.isClsIn K f_DuplicateName = true)
    (xf_DuplicateName : PySem.W.typeIn K (.ref f_DuplicateName_init) = some (.type "function"))
    (no_DuplicateName_name : PySem.W.findIn K (.ref f_DuplicateName) "name" = some none)
    (x_UnknownName : ∃ nm q N bs bm sn sub ab col dd k0 k1 k2 k3 k5, K.lookup f_UnknownName = some (excClassObj nm q f_UnknownName N bs bm true sn sub ab col dd k0 k1 k2 k3 k5 "ValueError.__new__") ∧ PySem.HandSPX.refsVE bm = true)
    (xs_UnknownName : PySem.W.findIn K (.ref f_UnknownName) "__setattr__" = some (some (.builtin "object.__setattr__")))
    (xe_UnknownName : PySem.W.subIn K (.ref f_UnknownName) (.type "BaseException") = some true)
    (xt_UnknownName : PySem.W.typeIn K (.ref f_UnknownName) = some (.type "type"))
    (xk_UnknownName : PySem.W.keepIn K (.ref f_UnknownName) = true)
    (xg_UnknownName : PySem.W.findIn K (.ref f_UnknownName) "__getattribute__" = some (some (.builtin "BaseException.__getattribute__")))
    (xh_UnknownName : PySem.W.findIn K (.ref f_UnknownName) "__getattr__" = some none)
    (xd_UnknownName : PySem.W.hasDictIn K f_UnknownName = true)
    (xc_UnknownName : PySem.W.findIn K (.ref f_UnknownName) "__class__" = some (some (.builtin "object.__class__")))
    (xm_UnknownName : PySem.W.mroIn K f_UnknownName (.type "object") = some true)
    (xi_UnknownName : PySem.W.isClsIn K f_UnknownName = true)
    (xf_UnknownName : PySem.W.typeIn K (.ref f_UnknownName_init) = some (.type "function"))
    (no_UnknownName_name : PySem.W.findIn K (.ref f_UnknownName) "name" = some none)
    (x_BadCount : ∃ nm q N bs bm sn sub ab col dd k0 k1 k2 k3 k5, K.lookup f_BadCount = some (excClassObj nm q f_BadCount N bs bm true sn sub ab col dd k0 k1 k2 k3 k5 "ValueError.__new__") ∧ PySem.HandSPX.refsVE bm = true)
    (xs_BadCount : PySem.W.findIn K (.ref f_BadCount) "__setattr__" = some (some (.builtin "object.__setattr__")))
    (xe_BadCount : PySem.W.subIn K (.ref f_BadCount) (.type "BaseException") = some true)
    (xt_BadCount : PySem.W.typeIn K (.ref f_BadCount) = some (.type "type"))
    (xk_BadCount : PySem.W.keepIn K (.ref f_BadCount) = true)
    (xg_BadCount : PySem.W.findIn K (.ref f_BadCount) "__getattribute__" = some (some (.builtin "BaseException.__getattribute__")))
    (xh_BadCount : PySem.W.findIn K (.ref f_BadCount) "__getattr__" = some none)
    (xd_BadCount : PySem.W.hasDictIn K f_BadCount = true)
    (xc_BadCount : PySem.W.findIn K (.ref f_BadCount) "__class__" = some (some (.builtin "object.__class__")))
    (xm_BadCount : PySem.W.mroIn K f_BadCount (.type "object") = some true)
    (xi_BadCount : PySem.W.isClsIn K f_BadCount = true)
    (xf_BadCount : PySem.W.typeIn K (.ref f_BadCount_init) = some (.type "function"))
    (no_BadCount_count : PySem.W.findIn K (.ref f_BadCount) "count" = some none)
    (x_HasRound : ∃ nm q N bs bm sn sub ab col dd k0 k1 k2 k3 k5, K.lookup f_HasRound = some (excClassObj nm q f_HasRound N bs bm true sn sub ab col dd k0 k1 k2 k3 k5 "ValueError.__new__") ∧ PySem.HandSPX.refsVE bm = true)
    (xs_HasRound : PySem.W.findIn K (.ref f_HasRound) "__setattr__" = some (some (.builtin "object.__setattr__")))
    (xe_HasRound : PySem.W.subIn K (.ref f_HasRound) (.type "BaseException") = some true)
    (xt_HasRound : PySem.W.typeIn K (.ref f_HasRound) = some (.type "type"))
    (xk_HasRound : PySem.W.keepIn K (.ref f_HasRound) = true)
    (xg_HasRound : PySem.W.findIn K (.ref f_HasRound) "__getattribute__" = some (some (.builtin "BaseException.__getattribute__")))
    (xh_HasRound : PySem.W.findIn K (.ref f_HasRound) "__getattr__" = some none)
    (xd_HasRound : PySem.W.hasDictIn K f_HasRound = true)
    (xc_HasRound : PySem.W.findIn K (.ref f_HasRound) "__class__" = some (some (.builtin "object.__class__")))
    (xm_HasRound : PySem.W.mroIn K f_HasRound (.type "object") = some true)
    (xi_HasRound : PySem.W.isClsIn K f_HasRound = true)
    (xf_HasRound : PySem.W.typeIn K (.ref f_HasRound_init) = some (.type "function"))
    (no_HasRound_name : PySem.W.findIn K (.ref f_HasRound) "name" = some none)
    (x_UselessLink : ∃ nm q N bs bm sn sub ab col dd k0 k1 k2 k3 k5, K.lookup f_UselessLink = some (excClassObj nm q f_UselessLink N bs bm true sn sub ab col dd k0 k1 k2 k3 k5 "ValueError.__new__") ∧ PySem.HandSPX.refsVE bm = true)
    (xs_UselessLink : PySem.W.findIn K (.ref f_UselessLink) "__setattr__" = some (some (.builtin "object.__setattr__")))
    (xe_UselessLink : PySem.W.subIn K (.ref f_UselessLink) (.type "BaseException") = some true)
    (xt_UselessLink : PySem.W.typeIn K (.ref f_UselessLink) = some (.type "type"))
    (xk_UselessLink : PySem.W.keepIn K (.ref f_UselessLink) = true)
    (xg_UselessLink : PySem.W.findIn K (.ref f_UselessLink) "__getattribute__" = some (some (.builtin "BaseException.__getattribute__")))
    (xh_UselessLink : PySem.W.findIn K (.ref f_UselessLink) "__getattr__" = some none)
    (xd_UselessLink : PySem.W.hasDictIn K f_UselessLink = true)
    (xc_UselessLink : PySem.W.findIn K (.ref f_UselessLink) "__class__" = some (some (.builtin "object.__class__")))
    (xm_UselessLink : PySem.W.mroIn K f_UselessLink (.type "object") = some true)
    (xi_UselessLink : PySem.W.isClsIn K f_UselessLink = true)
    (xf_UselessLink : PySem.W.typeIn K (.ref f_UselessLink_init) = some (.type "function"))
    (no_UselessLink_name : PySem.W.findIn K (.ref f_UselessLink) "name" = some none)
    (es_UnknownName_UnknownName : PySem.W.subIn K (.ref f_UnknownName) (.ref f_UnknownName) = some true)
    (q_DIGITS : PySem.W.nsIn K mainGlobals "DIGITS" = some (some (.str ("0123456789" : Str) t_DIGITS)))
    (q_LETTERS : PySem.W.nsIn K mainGlobals "LETTERS" = some (some (.str ("abcdefghijklmnopqrstuvwxyz" : Str) t_LETTERS)))
    (q_LONGEST_NAME : PySem.W.nsIn K mainGlobals "LONGEST_NAME" = some (some (.int 6 t_LONGEST_NAME)))
    (g_gcd : PySem.W.nsIn K mainGlobals "gcd" = some (some (.builtin "math.gcd")))
    (z_abs : PySem.W.nsIn K mainGlobals "abs" = some none)
    (z_all : PySem.W.nsIn K mainGlobals "all" = some none)
    (z_dict : PySem.W.nsIn K mainGlobals "dict" = some none)
    (z_int : PySem.W.nsIn K mainGlobals "int" = some none)
    (z_isinstance : PySem.W.nsIn K mainGlobals "isinstance" = some none)
    (z_len : PySem.W.nsIn K mainGlobals "len" = some none)
    (z_list : PySem.W.nsIn K mainGlobals "list" = some none)
    (z_max : PySem.W.nsIn K mainGlobals "max" = some none)
    (z_range : PySem.W.nsIn K mainGlobals "range" = some none)
    (z_set : PySem.W.nsIn K mainGlobals "set" = some none)
    (z_sorted : PySem.W.nsIn K mainGlobals "sorted" = some none)
    (z_sum : PySem.W.nsIn K mainGlobals "sum" = some none)
    (z_tuple : PySem.W.nsIn K mainGlobals "tuple" = some none)
    (a_law : PySem.W.nsIn K mainGlobals "law" = some (some (.ref f_law)))
    (l_law : K.lookup f_law = some ⟨oc_law, od_law, .func (PySem.W.fnOf "law" "law" (defArgs s_law) (defBody s_law) (defScope s_law) .none kV_law dc_law pm_law an_law cd_law ct_law), sl_law⟩)
    (c_law : PySem.W.codeIn K cd_law "law" = true)
    (k_law : PySem.W.keepIn K (.ref f_law) = true)
    : ∃ fd : FuncData, (∀ (s : Shared) (v : Value), BindsTo s fd ⟨[v], []⟩ [("_law_script", v)]) ∧ ∀ base : Heap, K.In base → base.Ns mainGlobals mg → FnOk l.prog w K mg base CX0 9 fa fd ["_law_script"] (spLaw K) := by
  have e := hfa.symm.trans (PySem.W.mg_of X G a_law)
  cases e
  obtain ⟨e1_Ratio_init, ev1_Ratio_init, eb1_Ratio_init⟩ := FunD.binds1 (K := K) (f := f_Ratio_init) (fd := PySem.W.fnOf "__init__" "Ratio.__init__" (defArgs s_Ratio_init) (defBody s_Ratio_init) (defScope s_Ratio_init) (.ref dT_Ratio_init) kV_Ratio_init dc_Ratio_init pm_Ratio_init an_Ratio_init cd_Ratio_init ct_Ratio_init) (dvs := [V.int 1]) (kws := []) (ps := ["self", "top", "bottom"]) ⟨⟨_, _, _, _, _, _, _, _, _, _, rfl, l_Ratio_init, c_Ratio_init, .inr ⟨by simp, _, _, [.int 1 dt_Ratio_init], _, rfl, t_Ratio_init, rfl, .cons ⟨_, rfl⟩ .nil⟩, .inl rfl⟩, k_Ratio_init⟩ 2 0 (by simp) rfl fun _ _ _ _ _ _ _ us its hl hi => match us, hl, its, hi with | [_, _], _, [_], _ => ⟨_, rfl, rfl⟩
  obtain ⟨e2_Ratio_init, ev2_Ratio_init, eb2_Ratio_init⟩ := FunD.binds1 (K := K) (f := f_Ratio_init) (fd := PySem.W.fnOf "__init__" "Ratio.__init__" (defArgs s_Ratio_init) (defBody s_Ratio_init) (defScope s_Ratio_init) (.ref dT_Ratio_init) kV_Ratio_init dc_Ratio_init pm_Ratio_init an_Ratio_init cd_Ratio_init ct_Ratio_init) (dvs := [V.int 1]) (kws := []) (ps := ["self", "top", "bottom"]) ⟨⟨_, _, _, _, _, _, _, _, _, _, rfl, l_Ratio_init, c_Ratio_init, .inr ⟨by simp, _, _, [.int 1 dt_Ratio_init], _, rfl, t_Ratio_init, rfl, .cons ⟨_, rfl⟩ .nil⟩, .inl rfl⟩, k_Ratio_init⟩ 3 1 (by simp) rfl fun _ _ _ _ _ _ _ us its hl hi => match us, hl, its, hi with | [_, _, _], _, [_], _ => ⟨_, rfl, rfl⟩
  have T : Txt K mg := {
    f_BadName := f_BadName,
    m_BadName := PySem.W.mg_of X G a_BadName,
    f_DuplicateName := f_DuplicateName,
    m_DuplicateName := PySem.W.mg_of X G a_DuplicateName,
    f_UnknownName := f_UnknownName,
    m_UnknownName := PySem.W.mg_of X G a_UnknownName,
    f_BadCount := f_BadCount,
    m_BadCount := PySem.W.mg_of X G a_BadCount,
    f_HasRound := f_HasRound,
    m_HasRound := PySem.W.mg_of X G a_HasRound,
    f_UselessLink := f_UselessLink,
    m_UselessLink := PySem.W.mg_of X G a_UselessLink,
    f_Ratio := f_Ratio,
    m_Ratio := PySem.W.mg_of X G a_Ratio,
    cl_Ratio := ⟨pg_Ratio, hd_Ratio, po_Ratio, sa_Ratio⟩,
    ic_Ratio := ⟨⟨pg_Ratio, hd_Ratio, po_Ratio, sa_Ratio⟩, hc_Ratio, hn_class, ht_class, mo_Ratio, kit_self⟩,
    na_Ratio_top := na_Ratio_top,
    na_Ratio_bottom := na_Ratio_bottom,
    sn_Ratio_int := su_Ratio_int,
    ki_Ratio_int := kit_not ic_Ratio ty_Ratio su_Ratio_int (fun z => nomatch z),
    f_Network := f_Network,
    m_Network := PySem.W.mg_of X G a_Network,
    cl_Network := ⟨pg_Network, hd_Network, po_Network, sa_Network⟩,
    ic_Network := ⟨⟨pg_Network, hd_Network, po_Network, sa_Network⟩, hc_Network, hn_class, ht_class, mo_Network, kit_self⟩,
    na_Network_start := na_Network_start,
    na_Network_end := na_Network_end,
    na_Network_links := na_Network_links,
    na_Network_places := na_Network_places,
    na_Network_behind := na_Network_behind,
    f_valid_name := f_valid_name,
    d_valid_name := PySem.W.fnOf "valid_name" "valid_name" (defArgs s_valid_name) (defBody s_valid_name) (defScope s_valid_name) .none kV_valid_name dc_valid_name pm_valid_name an_valid_name cd_valid_name ct_valid_name,
    F_valid_name := fun_mk (st := s_valid_name) l_valid_name c_valid_name k_valid_name,
    b_valid_name := (fun_mk (st := s_valid_name) l_valid_name c_valid_name k_valid_name).binds (ps := ["text"]) fun _ _ _ _ _ _ us hl => match us, hl with | [_], _ => rfl,
    m_valid_name := PySem.W.mg_of X G a_valid_name,
    f_as_ratio := f_as_ratio,
    d_as_ratio := PySem.W.fnOf "as_ratio" "as_ratio" (defArgs s_as_ratio) (defBody s_as_ratio) (defScope s_as_ratio) .none kV_as_ratio dc_as_ratio pm_as_ratio an_as_ratio cd_as_ratio ct_as_ratio,
    F_as_ratio := fun_mk (st := s_as_ratio) l_as_ratio c_as_ratio k_as_ratio,
    b_as_ratio := (fun_mk (st := s_as_ratio) l_as_ratio c_as_ratio k_as_ratio).binds (ps := ["value"]) fun _ _ _ _ _ _ us hl => match us, hl with | [_], _ => rfl,
    m_as_ratio := PySem.W.mg_of X G a_as_ratio,
    f_ordered_places := f_ordered_places,
    d_ordered_places := PySem.W.fnOf "ordered_places" "ordered_places" (defArgs s_ordered_places) (defBody s_ordered_places) (defScope s_ordered_places) .none kV_ordered_places dc_ordered_places pm_ordered_places an_ordered_places cd_ordered_places ct_ordered_places,
    F_ordered_places := fun_mk (st := s_ordered_places) l_ordered_places c_ordered_places k_ordered_places,
    b_ordered_places := (fun_mk (st := s_ordered_places) l_ordered_places c_ordered_places k_ordered_places).binds (ps := ["table", "start", "end"]) fun _ _ _ _ _ _ us hl => match us, hl with | [_, _, _], _ => rfl,
    m_ordered_places := PySem.W.mg_of X G a_ordered_places,
    f_places_behind := f_places_behind,
    d_places_behind := PySem.W.fnOf "places_behind" "places_behind" (defArgs s_places_behind) (defBody s_places_behind) (defScope s_places_behind) .none kV_places_behind dc_places_behind pm_places_behind an_places_behind cd_places_behind ct_places_behind,
    F_places_behind := fun_mk (st := s_places_behind) l_places_behind c_places_behind k_places_behind,
    b_places_behind := (fun_mk (st := s_places_behind) l_places_behind c_places_behind k_places_behind).binds (ps := ["table", "first"]) fun _ _ _ _ _ _ us hl => match us, hl with | [_, _], _ => rfl,
    m_places_behind := PySem.W.mg_of X G a_places_behind,
    f_useful_names := f_useful_names,
    d_useful_names := PySem.W.fnOf "useful_names" "useful_names" (defArgs s_useful_names) (defBody s_useful_names) (defScope s_useful_names) .none kV_useful_names dc_useful_names pm_useful_names an_useful_names cd_useful_names ct_useful_names,
    F_useful_names := fun_mk (st := s_useful_names) l_useful_names c_useful_names k_useful_names,
    b_useful_names := (fun_mk (st := s_useful_names) l_useful_names c_useful_names k_useful_names).binds (ps := ["table", "start", "end"]) fun _ _ _ _ _ _ us hl => match us, hl with | [_, _, _], _ => rfl,
    m_useful_names := PySem.W.mg_of X G a_useful_names,
    f_check_ends := f_check_ends,
    d_check_ends := PySem.W.fnOf "check_ends" "check_ends" (defArgs s_check_ends) (defBody s_check_ends) (defScope s_check_ends) .none kV_check_ends dc_check_ends pm_check_ends an_check_ends cd_check_ends ct_check_ends,
    F_check_ends := fun_mk (st := s_check_ends) l_check_ends c_check_ends k_check_ends,
    b_check_ends := (fun_mk (st := s_check_ends) l_check_ends c_check_ends k_check_ends).binds (ps := ["start", "end"]) fun _ _ _ _ _ _ us hl => match us, hl with | [_, _], _ => rfl,
    m_check_ends := PySem.W.mg_of X G a_check_ends,
    f_check_names := f_check_names,
    d_check_names := PySem.W.fnOf "check_names" "check_names" (defArgs s_check_names) (defBody s_check_names) (defScope s_check_names) .none kV_check_names dc_check_names pm_check_names an_check_names cd_check_names ct_check_names,
    F_check_names := fun_mk (st := s_check_names) l_check_names c_check_names k_check_names,
    b_check_names := (fun_mk (st := s_check_names) l_check_names c_check_names k_check_names).binds (ps := ["links"]) fun _ _ _ _ _ _ us hl => match us, hl with | [_], _ => rfl,
    m_check_names := PySem.W.mg_of X G a_check_names,
    f_check_rounds := f_check_rounds,
    d_check_rounds := PySem.W.fnOf "check_rounds" "check_rounds" (defArgs s_check_rounds) (defBody s_check_rounds) (defScope s_check_rounds) .none kV_check_rounds dc_check_rounds pm_check_rounds an_check_rounds cd_check_rounds ct_check_rounds,
    F_check_rounds := fun_mk (st := s_check_rounds) l_check_rounds c_check_rounds k_check_rounds,
    b_check_rounds := (fun_mk (st := s_check_rounds) l_check_rounds c_check_rounds k_check_rounds).binds (ps := ["table"]) fun _ _ _ _ _ _ us hl => match us, hl with | [_], _ => rfl,
    m_check_rounds := PySem.W.mg_of X G a_check_rounds,
    f_check_use := f_check_use,
    d_check_use := PySem.W.fnOf "check_use" "check_use" (defArgs s_check_use) (defBody s_check_use) (defScope s_check_use) .none kV_check_use dc_check_use pm_check_use an_check_use cd_check_use ct_check_use,
    F_check_use := fun_mk (st := s_check_use) l_check_use c_check_use k_check_use,
    b_check_use := (fun_mk (st := s_check_use) l_check_use c_check_use k_check_use).binds (ps := ["table", "start", "end"]) fun _ _ _ _ _ _ us hl => match us, hl with | [_, _, _], _ => rfl,
    m_check_use := PySem.W.mg_of X G a_check_use,
    f_outflow := f_outflow,
    d_outflow := PySem.W.fnOf "outflow" "outflow" (defArgs s_outflow) (defBody s_outflow) (defScope s_outflow) .none kV_outflow dc_outflow pm_outflow an_outflow cd_outflow ct_outflow,
    F_outflow := fun_mk (st := s_outflow) l_outflow c_outflow k_outflow,
    b_outflow := (fun_mk (st := s_outflow) l_outflow c_outflow k_outflow).binds (ps := ["network", "loads", "places"]) fun _ _ _ _ _ _ us hl => match us, hl with | [_, _, _], _ => rfl,
    m_outflow := PySem.W.mg_of X G a_outflow,
    f_cut_load := f_cut_load,
    d_cut_load := PySem.W.fnOf "cut_load" "cut_load" (defArgs s_cut_load) (defBody s_cut_load) (defScope s_cut_load) .none kV_cut_load dc_cut_load pm_cut_load an_cut_load cd_cut_load ct_cut_load,
    F_cut_load := fun_mk (st := s_cut_load) l_cut_load c_cut_load k_cut_load,
    b_cut_load := (fun_mk (st := s_cut_load) l_cut_load c_cut_load k_cut_load).binds (ps := ["network", "loads", "places"]) fun _ _ _ _ _ _ us hl => match us, hl with | [_, _, _], _ => rfl,
    m_cut_load := PySem.W.mg_of X G a_cut_load,
    f_check_loads := f_check_loads,
    d_check_loads := PySem.W.fnOf "check_loads" "check_loads" (defArgs s_check_loads) (defBody s_check_loads) (defScope s_check_loads) .none kV_check_loads dc_check_loads pm_check_loads an_check_loads cd_check_loads ct_check_loads,
    F_check_loads := fun_mk (st := s_check_loads) l_check_loads c_check_loads k_check_loads,
    b_check_loads := (fun_mk (st := s_check_loads) l_check_loads c_check_loads k_check_loads).binds (ps := ["network", "loads"]) fun _ _ _ _ _ _ us hl => match us, hl with | [_, _], _ => rfl,
    m_check_loads := PySem.W.mg_of X G a_check_loads,
    f_start := f_start,
    d_start := PySem.W.fnOf "_law_start" "_law_start" (defArgs s_start) (defBody s_start) (defScope s_start) .none kV_start dc_start pm_start an_start cd_start ct_start,
    F_start := fun_mk (st := s_start) l_start c_start k_start,
    b_start := (fun_mk (st := s_start) l_start c_start k_start).binds (ps := ["_law_script"]) fun _ _ _ _ _ _ us hl => match us, hl with | [_], _ => rfl,
    m_start := PySem.W.mg_of X G a_start,
    f_take := f_take,
    d_take := PySem.W.fnOf "_law_take" "_law_take" (defArgs s_take) (defBody s_take) (defScope s_take) .none kV_take dc_take pm_take an_take cd_take ct_take,
    F_take := fun_mk (st := s_take) l_take c_take k_take,
    b_take := (fun_mk (st := s_take) l_take c_take k_take).binds (ps := ["_law_state", "_law_limit"]) fun _ _ _ _ _ _ us hl => match us, hl with | [_, _], _ => rfl,
    m_take := PySem.W.mg_of X G a_take,
    f_shuffled := f_shuffled,
    d_shuffled := PySem.W.fnOf "_law_shuffled" "_law_shuffled" (defArgs s_shuffled) (defBody s_shuffled) (defScope s_shuffled) .none kV_shuffled dc_shuffled pm_shuffled an_shuffled cd_shuffled ct_shuffled,
    F_shuffled := fun_mk (st := s_shuffled) l_shuffled c_shuffled k_shuffled,
    b_shuffled := (fun_mk (st := s_shuffled) l_shuffled c_shuffled k_shuffled).binds (ps := ["_law_state", "_law_items"]) fun _ _ _ _ _ _ us hl => match us, hl with | [_, _], _ => rfl,
    m_shuffled := PySem.W.mg_of X G a_shuffled,
    f_grown := f_grown,
    d_grown := PySem.W.fnOf "_law_grown" "_law_grown" (defArgs s_grown) (defBody s_grown) (defScope s_grown) .none kV_grown dc_grown pm_grown an_grown cd_grown ct_grown,
    F_grown := fun_mk (st := s_grown) l_grown c_grown k_grown,
    b_grown := (fun_mk (st := s_grown) l_grown c_grown k_grown).binds (ps := ["_law_state", "_law_turns", "_law_wild"]) fun _ _ _ _ _ _ us hl => match us, hl with | [_, _, _], _ => rfl,
    m_grown := PySem.W.mg_of X G a_grown,
    f_named := f_named,
    d_named := PySem.W.fnOf "_law_named" "_law_named" (defArgs s_named) (defBody s_named) (defScope s_named) .none kV_named dc_named pm_named an_named cd_named ct_named,
    F_named := fun_mk (st := s_named) l_named c_named k_named,
    b_named := (fun_mk (st := s_named) l_named c_named k_named).binds (ps := ["_law_state", "_law_links", "_law_count"]) fun _ _ _ _ _ _ us hl => match us, hl with | [_, _, _], _ => rfl,
    m_named := PySem.W.mg_of X G a_named,
    f_network := f_network,
    d_network := PySem.W.fnOf "_law_network" "_law_network" (defArgs s_network) (defBody s_network) (defScope s_network) .none kV_network dc_network pm_network an_network cd_network ct_network,
    F_network := fun_mk (st := s_network) l_network c_network k_network,
    b_network := (fun_mk (st := s_network) l_network c_network k_network).binds (ps := ["_law_state", "_law_wild"]) fun _ _ _ _ _ _ us hl => match us, hl with | [_, _], _ => rfl,
    m_network := PySem.W.mg_of X G a_network,
    f_ways := f_ways,
    d_ways := PySem.W.fnOf "_law_ways" "_law_ways" (defArgs s_ways) (defBody s_ways) (defScope s_ways) .none kV_ways dc_ways pm_ways an_ways cd_ways ct_ways,
    F_ways := fun_mk (st := s_ways) l_ways c_ways k_ways,
    b_ways := (fun_mk (st := s_ways) l_ways c_ways k_ways).binds (ps := ["_law_links", "_law_start_here", "_law_end"]) fun _ _ _ _ _ _ us hl => match us, hl with | [_, _, _], _ => rfl,
    m_ways := PySem.W.mg_of X G a_ways,
    f_loads := f_loads,
    d_loads := PySem.W.fnOf "_law_loads" "_law_loads" (defArgs s_loads) (defBody s_loads) (defScope s_loads) .none kV_loads dc_loads pm_loads an_loads cd_loads ct_loads,
    F_loads := fun_mk (st := s_loads) l_loads c_loads k_loads,
    b_loads := (fun_mk (st := s_loads) l_loads c_loads k_loads).binds (ps := ["_law_links", "_law_ways_here", "_law_amounts_here"]) fun _ _ _ _ _ _ us hl => match us, hl with | [_, _, _], _ => rfl,
    m_loads := PySem.W.mg_of X G a_loads,
    f_amounts := f_amounts,
    d_amounts := PySem.W.fnOf "_law_amounts" "_law_amounts" (defArgs s_amounts) (defBody s_amounts) (defScope s_amounts) .none kV_amounts dc_amounts pm_amounts an_amounts cd_amounts ct_amounts,
    F_amounts := fun_mk (st := s_amounts) l_amounts c_amounts k_amounts,
    b_amounts := (fun_mk (st := s_amounts) l_amounts c_amounts k_amounts).binds (ps := ["_law_state", "_law_ways_here", "_law_most"]) fun _ _ _ _ _ _ us hl => match us, hl with | [_, _, _], _ => rfl,
    m_amounts := PySem.W.mg_of X G a_amounts,
    f_ratios := f_ratios,
    d_ratios := PySem.W.fnOf "_law_ratios" "_law_ratios" (defArgs s_ratios) (defBody s_ratios) (defScope s_ratios) .none kV_ratios dc_ratios pm_ratios an_ratios cd_ratios ct_ratios,
    F_ratios := fun_mk (st := s_ratios) l_ratios c_ratios k_ratios,
    b_ratios := (fun_mk (st := s_ratios) l_ratios c_ratios k_ratios).binds (ps := ["_law_borne", "_law_bottom"]) fun _ _ _ _ _ _ us hl => match us, hl with | [_, _], _ => rfl,
    m_ratios := PySem.W.mg_of X G a_ratios,
    f_told := f_told,
    d_told := PySem.W.fnOf "_law_told" "_law_told" (defArgs s_told) (defBody s_told) (defScope s_told) .none kV_told dc_told pm_told an_told cd_told ct_told,
    F_told := fun_mk (st := s_told) l_told c_told k_told,
    b_told := (fun_mk (st := s_told) l_told c_told k_told).binds (ps := ["_law_net", "_law_handed", "_law_spots"]) fun _ _ _ _ _ _ us hl => match us, hl with | [_, _, _], _ => rfl,
    m_told := PySem.W.mg_of X G a_told,
    f_due := f_due,
    d_due := PySem.W.fnOf "_law_due" "_law_due" (defArgs s_due) (defBody s_due) (defScope s_due) .none kV_due dc_due pm_due an_due cd_due ct_due,
    F_due := fun_mk (st := s_due) l_due c_due k_due,
    b_due := (fun_mk (st := s_due) l_due c_due k_due).binds (ps := ["_law_links", "_law_borne", "_law_spots", "_law_bottom"]) fun _ _ _ _ _ _ us hl => match us, hl with | [_, _, _, _], _ => rfl,
    m_due := PySem.W.mg_of X G a_due,
    f_BadName_init := f_BadName_init,
    d_BadName_init := PySem.W.fnOf "__init__" "BadName.__init__" (defArgs s_BadName_init) (defBody s_BadName_init) (defScope s_BadName_init) .none kV_BadName_init dc_BadName_init pm_BadName_init an_BadName_init cd_BadName_init ct_BadName_init,
    F_BadName_init := fun_mk (st := s_BadName_init) l_BadName_init c_BadName_init k_BadName_init,
    b_BadName_init := (fun_mk (st := s_BadName_init) l_BadName_init c_BadName_init k_BadName_init).binds (ps := ["self", "name"]) fun _ _ _ _ _ _ us hl => match us, hl with | [_, _], _ => rfl,
    a_BadName_init := a_BadName_init,
    i_BadName_init := i_BadName_init,
    f_DuplicateName_init := f_DuplicateName_init,
    d_DuplicateName_init := PySem.W.fnOf "__init__" "DuplicateName.__init__" (defArgs s_DuplicateName_init) (defBody s_DuplicateName_init) (defScope s_DuplicateName_init) .none kV_DuplicateName_init dc_DuplicateName_init pm_DuplicateName_init an_DuplicateName_init cd_DuplicateName_init ct_DuplicateName_init,
    F_DuplicateName_init := fun_mk (st := s_DuplicateName_init) l_DuplicateName_init c_DuplicateName_init k_DuplicateName_init,
    b_DuplicateName_init := (fun_mk (st := s_DuplicateName_init) l_DuplicateName_init c_DuplicateName_init k_DuplicateName_init).binds (ps := ["self", "name"]) fun _ _ _ _ _ _ us hl => match us, hl with | [_, _], _ => rfl,
    a_DuplicateName_init := a_DuplicateName_init,
    i_DuplicateName_init := i_DuplicateName_init,
    f_UnknownName_init := f_UnknownName_init,
    d_UnknownName_init := PySem.W.fnOf "__init__" "UnknownName.__init__" (defArgs s_UnknownName_init) (defBody s_UnknownName_init) (defScope s_UnknownName_init) .none kV_UnknownName_init dc_UnknownName_init pm_UnknownName_init an_UnknownName_init cd_UnknownName_init ct_UnknownName_init,
    F_UnknownName_init := fun_mk (st := s_UnknownName_init) l_UnknownName_init c_UnknownName_init k_UnknownName_init,
    b_UnknownName_init := (fun_mk (st := s_UnknownName_init) l_UnknownName_init c_UnknownName_init k_UnknownName_init).binds (ps := ["self", "name"]) fun _ _ _ _ _ _ us hl => match us, hl with | [_, _], _ => rfl,
    a_UnknownName_init := a_UnknownName_init,
    i_UnknownName_init := i_UnknownName_init,
    f_BadCount_init := f_BadCount_init,
    d_BadCount_init := PySem.W.fnOf "__init__" "BadCount.__init__" (defArgs s_BadCount_init) (defBody s_BadCount_init) (defScope s_BadCount_init) .none kV_BadCount_init dc_BadCount_init pm_BadCount_init an_BadCount_init cd_BadCount_init ct_BadCount_init,
    F_BadCount_init := fun_mk (st := s_BadCount_init) l_BadCount_init c_BadCount_init k_BadCount_init,
    b_BadCount_init := (fun_mk (st := s_BadCount_init) l_BadCount_init c_BadCount_init k_BadCount_init).binds (ps := ["self", "count"]) fun _ _ _ _ _ _ us hl => match us, hl with | [_, _], _ => rfl,
    a_BadCount_init := a_BadCount_init,
    i_BadCount_init := i_BadCount_init,
    f_HasRound_init := f_HasRound_init,
    d_HasRound_init := PySem.W.fnOf "__init__" "HasRound.__init__" (defArgs s_HasRound_init) (defBody s_HasRound_init) (defScope s_HasRound_init) .none kV_HasRound_init dc_HasRound_init pm_HasRound_init an_HasRound_init cd_HasRound_init ct_HasRound_init,
    F_HasRound_init := fun_mk (st := s_HasRound_init) l_HasRound_init c_HasRound_init k_HasRound_init,
    b_HasRound_init := (fun_mk (st := s_HasRound_init) l_HasRound_init c_HasRound_init k_HasRound_init).binds (ps := ["self", "name"]) fun _ _ _ _ _ _ us hl => match us, hl with | [_, _], _ => rfl,
    a_HasRound_init := a_HasRound_init,
    i_HasRound_init := i_HasRound_init,
    f_UselessLink_init := f_UselessLink_init,
    d_UselessLink_init := PySem.W.fnOf "__init__" "UselessLink.__init__" (defArgs s_UselessLink_init) (defBody s_UselessLink_init) (defScope s_UselessLink_init) .none kV_UselessLink_init dc_UselessLink_init pm_UselessLink_init an_UselessLink_init cd_UselessLink_init ct_UselessLink_init,
    F_UselessLink_init := fun_mk (st := s_UselessLink_init) l_UselessLink_init c_UselessLink_init k_UselessLink_init,
    b_UselessLink_init := (fun_mk (st := s_UselessLink_init) l_UselessLink_init c_UselessLink_init k_UselessLink_init).binds (ps := ["self", "name"]) fun _ _ _ _ _ _ us hl => match us, hl with | [_, _], _ => rfl,
    a_UselessLink_init := a_UselessLink_init,
    i_UselessLink_init := i_UselessLink_init,
    f_Ratio_init := f_Ratio_init,
    d_Ratio_init := PySem.W.fnOf "__init__" "Ratio.__init__" (defArgs s_Ratio_init) (defBody s_Ratio_init) (defScope s_Ratio_init) (.ref dT_Ratio_init) kV_Ratio_init dc_Ratio_init pm_Ratio_init an_Ratio_init cd_Ratio_init ct_Ratio_init,
    F_Ratio_init := ⟨⟨_, _, _, _, _, _, _, _, _, _, rfl, l_Ratio_init, c_Ratio_init, .inr ⟨by simp, _, _, [.int 1 dt_Ratio_init], _, rfl, t_Ratio_init, rfl, .cons ⟨_, rfl⟩ .nil⟩, .inl rfl⟩, k_Ratio_init⟩,
    a_Ratio_init := a_Ratio_init,
    i_Ratio_init := i_Ratio_init,
    mk_Ratio := ⟨mk_Ratio, a_Ratio_init, i_Ratio_init, kc_Ratio⟩,
    f_Ratio_top := f_Ratio_top,
    d_Ratio_top := PySem.W.fnOf "top" "Ratio.top" (defArgs s_Ratio_top) (defBody s_Ratio_top) (defScope s_Ratio_top) .none kV_Ratio_top dc_Ratio_top pm_Ratio_top an_Ratio_top cd_Ratio_top ct_Ratio_top,
    F_Ratio_top := fun_mk (st := s_Ratio_top) l_Ratio_top c_Ratio_top k_Ratio_top,
    b_Ratio_top := (fun_mk (st := s_Ratio_top) l_Ratio_top c_Ratio_top k_Ratio_top).binds (ps := ["self"]) fun _ _ _ _ _ _ us hl => match us, hl with | [_], _ => rfl,
    p0_Ratio_top := p_Ratio_top,
    p_Ratio_top := ⟨a_Ratio_top, pg_Ratio_top, pt_Ratio_top, ⟨_, pr_Ratio_top⟩⟩,
    f_Ratio_bottom := f_Ratio_bottom,
    d_Ratio_bottom := PySem.W.fnOf "bottom" "Ratio.bottom" (defArgs s_Ratio_bottom) (defBody s_Ratio_bottom) (defScope s_Ratio_bottom) .none kV_Ratio_bottom dc_Ratio_bottom pm_Ratio_bottom an_Ratio_bottom cd_Ratio_bottom ct_Ratio_bottom,
    F_Ratio_bottom := fun_mk (st := s_Ratio_bottom) l_Ratio_bottom c_Ratio_bottom k_Ratio_bottom,
    b_Ratio_bottom := (fun_mk (st := s_Ratio_bottom) l_Ratio_bottom c_Ratio_bottom k_Ratio_bottom).binds (ps := ["self"]) fun _ _ _ _ _ _ us hl => match us, hl with | [_], _ => rfl,
    p0_Ratio_bottom := p_Ratio_bottom,
    p_Ratio_bottom := ⟨a_Ratio_bottom, pg_Ratio_bottom, pt_Ratio_bottom, ⟨_, pr_Ratio_bottom⟩⟩,
    f_Ratio_neg := f_Ratio_neg,
    d_Ratio_neg := PySem.W.fnOf "__neg__" "Ratio.__neg__" (defArgs s_Ratio_neg) (defBody s_Ratio_neg) (defScope s_Ratio_neg) .none kV_Ratio_neg dc_Ratio_neg pm_Ratio_neg an_Ratio_neg cd_Ratio_neg ct_Ratio_neg,
    F_Ratio_neg := fun_mk (st := s_Ratio_neg) l_Ratio_neg c_Ratio_neg k_Ratio_neg,
    b_Ratio_neg := (fun_mk (st := s_Ratio_neg) l_Ratio_neg c_Ratio_neg k_Ratio_neg).binds (ps := ["self"]) fun _ _ _ _ _ _ us hl => match us, hl with | [_], _ => rfl,
    a_Ratio_neg := a_Ratio_neg,
    i_Ratio_neg := i_Ratio_neg,
    f_Ratio_add := f_Ratio_add,
    d_Ratio_add := PySem.W.fnOf "__add__" "Ratio.__add__" (defArgs s_Ratio_add) (defBody s_Ratio_add) (defScope s_Ratio_add) .none kV_Ratio_add dc_Ratio_add pm_Ratio_add an_Ratio_add cd_Ratio_add ct_Ratio_add,
    F_Ratio_add := fun_mk (st := s_Ratio_add) l_Ratio_add c_Ratio_add k_Ratio_add,
    b_Ratio_add := (fun_mk (st := s_Ratio_add) l_Ratio_add c_Ratio_add k_Ratio_add).binds (ps := ["self", "other"]) fun _ _ _ _ _ _ us hl => match us, hl with | [_, _], _ => rfl,
    a_Ratio_add := a_Ratio_add,
    i_Ratio_add := i_Ratio_add,
    f_Ratio_sub := f_Ratio_sub,
    d_Ratio_sub := PySem.W.fnOf "__sub__" "Ratio.__sub__" (defArgs s_Ratio_sub) (defBody s_Ratio_sub) (defScope s_Ratio_sub) .none kV_Ratio_sub dc_Ratio_sub pm_Ratio_sub an_Ratio_sub cd_Ratio_sub ct_Ratio_sub,
    F_Ratio_sub := fun_mk (st := s_Ratio_sub) l_Ratio_sub c_Ratio_sub k_Ratio_sub,
    b_Ratio_sub := (fun_mk (st := s_Ratio_sub) l_Ratio_sub c_Ratio_sub k_Ratio_sub).binds (ps := ["self", "other"]) fun _ _ _ _ _ _ us hl => match us, hl with | [_, _], _ => rfl,
    a_Ratio_sub := a_Ratio_sub,
    i_Ratio_sub := i_Ratio_sub,
    f_Ratio_eq := f_Ratio_eq,
    d_Ratio_eq := PySem.W.fnOf "__eq__" "Ratio.__eq__" (defArgs s_Ratio_eq) (defBody s_Ratio_eq) (defScope s_Ratio_eq) .none kV_Ratio_eq dc_Ratio_eq pm_Ratio_eq an_Ratio_eq cd_Ratio_eq ct_Ratio_eq,
    F_Ratio_eq := fun_mk (st := s_Ratio_eq) l_Ratio_eq c_Ratio_eq k_Ratio_eq,
    b_Ratio_eq := (fun_mk (st := s_Ratio_eq) l_Ratio_eq c_Ratio_eq k_Ratio_eq).binds (ps := ["self", "other"]) fun _ _ _ _ _ _ us hl => match us, hl with | [_, _], _ => rfl,
    a_Ratio_eq := a_Ratio_eq,
    i_Ratio_eq := i_Ratio_eq,
    f_Network_init := f_Network_init,
    d_Network_init := PySem.W.fnOf "__init__" "Network.__init__" (defArgs s_Network_init) (defBody s_Network_init) (defScope s_Network_init) .none kV_Network_init dc_Network_init pm_Network_init an_Network_init cd_Network_init ct_Network_init,
    F_Network_init := fun_mk (st := s_Network_init) l_Network_init c_Network_init k_Network_init,
    b_Network_init := (fun_mk (st := s_Network_init) l_Network_init c_Network_init k_Network_init).binds (ps := ["self", "links", "start", "end"]) fun _ _ _ _ _ _ us hl => match us, hl with | [_, _, _, _], _ => rfl,
    a_Network_init := a_Network_init,
    i_Network_init := i_Network_init,
    mk_Network := ⟨mk_Network, a_Network_init, i_Network_init, kc_Network⟩,
    f_Network_names := f_Network_names,
    d_Network_names := PySem.W.fnOf "names" "Network.names" (defArgs s_Network_names) (defBody s_Network_names) (defScope s_Network_names) .none kV_Network_names dc_Network_names pm_Network_names an_Network_names cd_Network_names ct_Network_names,
    F_Network_names := fun_mk (st := s_Network_names) l_Network_names c_Network_names k_Network_names,
    b_Network_names := (fun_mk (st := s_Network_names) l_Network_names c_Network_names k_Network_names).binds (ps := ["self"]) fun _ _ _ _ _ _ us hl => match us, hl with | [_], _ => rfl,
    p0_Network_names := p_Network_names,
    p_Network_names := ⟨a_Network_names, pg_Network_names, pt_Network_names, ⟨_, pr_Network_names⟩⟩,
    f_Network_places := f_Network_places,
    d_Network_places := PySem.W.fnOf "places" "Network.places" (defArgs s_Network_places) (defBody s_Network_places) (defScope s_Network_places) .none kV_Network_places dc_Network_places pm_Network_places an_Network_places cd_Network_places ct_Network_places,
    F_Network_places := fun_mk (st := s_Network_places) l_Network_places c_Network_places k_Network_places,
    b_Network_places := (fun_mk (st := s_Network_places) l_Network_places c_Network_places k_Network_places).binds (ps := ["self"]) fun _ _ _ _ _ _ us hl => match us, hl with | [_], _ => rfl,
    p0_Network_places := p_Network_places,
    p_Network_places := ⟨a_Network_places, pg_Network_places, pt_Network_places, ⟨_, pr_Network_places⟩⟩,
    f_Network_getitem := f_Network_getitem,
    d_Network_getitem := PySem.W.fnOf "__getitem__" "Network.__getitem__" (defArgs s_Network_getitem) (defBody s_Network_getitem) (defScope s_Network_getitem) .none kV_Network_getitem dc_Network_getitem pm_Network_getitem an_Network_getitem cd_Network_getitem ct_Network_getitem,
    F_Network_getitem := fun_mk (st := s_Network_getitem) l_Network_getitem c_Network_getitem k_Network_getitem,
    b_Network_getitem := (fun_mk (st := s_Network_getitem) l_Network_getitem c_Network_getitem k_Network_getitem).binds (ps := ["self", "name"]) fun _ _ _ _ _ _ us hl => match us, hl with | [_, _], _ => rfl,
    a_Network_getitem := a_Network_getitem,
    i_Network_getitem := i_Network_getitem,
    f_Ratio_radd := f_Ratio_radd,
    op_Ratio_add := ⟨sf_Ratio, a_Ratio_add, i_Ratio_add, a_Ratio_radd, i_Ratio_radd, ⟨_, i1_Ratio_add⟩, ⟨_, i2_Ratio_add⟩, su_Ratio_int, us_Ratio⟩,
    f_Ratio_rsub := f_Ratio_rsub,
    op_Ratio_sub := ⟨sf_Ratio, a_Ratio_sub, i_Ratio_sub, a_Ratio_rsub, i_Ratio_rsub, ⟨_, i1_Ratio_sub⟩, ⟨_, i2_Ratio_sub⟩, su_Ratio_int, us_Ratio⟩,
    oth_Ratio := ⟨a_Ratio_eq, i_Ratio_eq, ot_Ratio_int, ot_Ratio_str, ot_Ratio_NoneType, ot_Ratio_tuple, ot_Ratio_list⟩,
    none_Ratio := ⟨ne_Ratio, ob_Ratio, a_Ratio_eq, i_Ratio_eq⟩,
    cr_Network := ⟨rd_Network, ga_Network⟩,
    tv_Network_MOST_LINKS := tv_Network_MOST_LINKS,
    cv_Network_MOST_LINKS := ⟨cw_Network_MOST_LINKS, ⟨_, rfl⟩⟩,
    tv_Network_MOST_PLACES := tv_Network_MOST_PLACES,
    cv_Network_MOST_PLACES := ⟨cw_Network_MOST_PLACES, ⟨_, rfl⟩⟩,
    dn_Network_getitem := ⟨a_Network_getitem, i_Network_getitem, fi_Network_getitem, ns_Network_getitem⟩,
    noi_Ratio_add := ⟨⟨_, cc_Ratio, mr_Ratio⟩, no1_Ratio_add, no2_Ratio_add⟩,
    noi_Ratio_sub := ⟨⟨_, cc_Ratio, mr_Ratio⟩, no1_Ratio_sub, no2_Ratio_sub⟩,
    e1_Ratio_init := e1_Ratio_init,
    v1_Ratio_init := ev1_Ratio_init,
    b1_Ratio_init := eb1_Ratio_init,
    e2_Ratio_init := e2_Ratio_init,
    v2_Ratio_init := ev2_Ratio_init,
    b2_Ratio_init := eb2_Ratio_init,
    ox_BadName := ⟨x_BadName, xs_BadName, xe_BadName, xt_BadName, xk_BadName⟩,
    ix_BadName := a_BadName_init,
    tx_BadName := xf_BadName,
    xf_BadName := ⟨xg_BadName, xh_BadName, xe_BadName, xd_BadName⟩,
    ec_BadName := ⟨xg_BadName, xh_BadName, xe_BadName, xd_BadName, xc_BadName, hn_class, ht_class, xm_BadName⟩,
    no_BadName_name := no_BadName_name,
    ox_DuplicateName := ⟨x_DuplicateName, xs_DuplicateName, xe_DuplicateName, xt_DuplicateName, xk_DuplicateName⟩,
    ix_DuplicateName := a_DuplicateName_init,
    tx_DuplicateName := xf_DuplicateName,
    xf_DuplicateName := ⟨xg_DuplicateName, xh_DuplicateName, xe_DuplicateName, xd_DuplicateName⟩,
    ec_DuplicateName := ⟨xg_DuplicateName, xh_DuplicateName, xe_DuplicateName, xd_DuplicateName, xc_DuplicateName, hn_class, ht_class, xm_DuplicateName⟩,
    no_DuplicateName_name := no_DuplicateName_name,
    ox_UnknownName := ⟨x_UnknownName, xs_UnknownName, xe_UnknownName, xt_UnknownName, xk_UnknownName⟩,
    ix_UnknownName := a_UnknownName_init,
    tx_UnknownName := xf_UnknownName,
    xf_UnknownName := ⟨xg_UnknownName, xh_UnknownName, xe_UnknownName, xd_UnknownName⟩,
    ec_UnknownName := ⟨xg_UnknownName, xh_UnknownName, xe_UnknownName, xd_UnknownName, xc_UnknownName, hn_class, ht_class, xm_UnknownName⟩,
    no_UnknownName_name := no_UnknownName_name,
    ox_BadCount := ⟨x_BadCount, xs_BadCount, xe_BadCount, xt_BadCount, xk_BadCount⟩,
    ix_BadCount := a_BadCount_init,
    tx_BadCount := xf_BadCount,
    xf_BadCount := ⟨xg_BadCount, xh_BadCount, xe_BadCount, xd_BadCount⟩,
    ec_BadCount := ⟨xg_BadCount, xh_BadCount, xe_BadCount, xd_BadCount, xc_BadCount, hn_class, ht_class, xm_BadCount⟩,
    no_BadCount_count := no_BadCount_count,
    ox_HasRound := ⟨x_HasRound, xs_HasRound, xe_HasRound, xt_HasRound, xk_HasRound⟩,
    ix_HasRound := a_HasRound_init,
    tx_HasRound := xf_HasRound,
    xf_HasRound := ⟨xg_HasRound, xh_HasRound, xe_HasRound, xd_HasRound⟩,
    ec_HasRound := ⟨xg_HasRound, xh_HasRound, xe_HasRound, xd_HasRound, xc_HasRound, hn_class, ht_class, xm_HasRound⟩,
    no_HasRound_name := no_HasRound_name,
    ox_UselessLink := ⟨x_UselessLink, xs_UselessLink, xe_UselessLink, xt_UselessLink, xk_UselessLink⟩,
    ix_UselessLink := a_UselessLink_init,
    tx_UselessLink := xf_UselessLink,
    xf_UselessLink := ⟨xg_UselessLink, xh_UselessLink, xe_UselessLink, xd_UselessLink⟩,
    ec_UselessLink := ⟨xg_UselessLink, xh_UselessLink, xe_UselessLink, xd_UselessLink, xc_UselessLink, hn_class, ht_class, xm_UselessLink⟩,
    no_UselessLink_name := no_UselessLink_name,
    es_UnknownName_UnknownName := es_UnknownName_UnknownName,
    xi_UnknownName_UnknownName := xi_UnknownName,
    xt_UnknownName_UnknownName := xt_UnknownName,
    kb_cut_load_0_places_loads_network := kbinds_perm (by decide) fun _ ws _ hl => match ws, hl with | _ :: _ :: _ :: _, _ => .of_eq rfl | [], h => by simp [permL] at h | [_], h => by simp [permL] at h | [_, _], h => by simp [permL] at h,
    t_DIGITS := t_DIGITS,
    c_DIGITS := PySem.W.mg_of X G q_DIGITS,
    t_LETTERS := t_LETTERS,
    c_LETTERS := PySem.W.mg_of X G q_LETTERS,
    t_LONGEST_NAME := t_LONGEST_NAME,
    c_LONGEST_NAME := PySem.W.mg_of X G q_LONGEST_NAME,
    g_gcd := PySem.W.mg_of X G g_gcd,
    n_abs := PySem.W.mg_none_of X G z_abs,
    n_all := PySem.W.mg_none_of X G z_all,
    n_dict := PySem.W.mg_none_of X G z_dict,
    n_int := PySem.W.mg_none_of X G z_int,
    n_isinstance := PySem.W.mg_none_of X G z_isinstance,
    n_len := PySem.W.mg_none_of X G z_len,
    n_list := PySem.W.mg_none_of X G z_list,
    n_max := PySem.W.mg_none_of X G z_max,
    n_range := PySem.W.mg_none_of X G z_range,
    n_set := PySem.W.mg_none_of X G z_set,
    n_sorted := PySem.W.mg_none_of X G z_sorted,
    n_sum := PySem.W.mg_none_of X G z_sum,
    n_tuple := PySem.W.mg_none_of X G z_tuple }
  exact ⟨PySem.W.fnOf "law" "law" (defArgs s_law) (defBody s_law) (defScope s_law) .none kV_law dc_law pm_law an_law cd_law ct_law, fun s v => .of_eq rfl, fun base _ _ => ok_law T (fun_mk (st := s_law) l_law c_law k_law)⟩
end My
open PySem PySem.W PyProof.Rows
set_option maxRecDepth 100000 in
set_option maxHeartbeats 0 in
theorem PySem.Challenge.cw_extralink_k62_cut_load_holds : PySem.Challenge.rw_extralink_k62_cut_load.Holds := by
  w_on; o_law; k_head; (case hw => w_witness2)
  k_fill
  refine L2.walk_of (l := PySem.Challenge.rw_extralink_k62_cut_load) (n := 63) (k := 9) (x := "_law_script") (CX := fun _ => L2.CX0) (sp := fun w => My.spLaw _) rfl (by decide) rfl ⟨rfl, by decide, by decide⟩ (fun w h Y => PySem.W.kIn_of Y) ?F (fun _ _ a ns hl _ hS => ⟨a, ns, rfl, hS, hl, fun _ => rfl⟩) (fun _ _ _ _ _ h => h)
  case F =>
    intro w mg fa h KX G hmg
    refine' My.all_mk KX G hmg ?a_BadName ?a_DuplicateName ?a_UnknownName ?a_BadCount ?a_HasRound ?a_UselessLink ?a_Ratio ?pg_Ratio ?hd_Ratio ?po_Ratio ?sa_Ratio ?mk_Ratio ?kc_Ratio ?hc_Ratio ?mo_Ratio ?ic_Ratio ?ty_Ratio ?hn_class ?ht_class ?na_Ratio_top ?na_Ratio_bottom ?su_Ratio_int ?a_Network ?pg_Network ?hd_Network ?po_Network ?sa_Network ?mk_Network ?kc_Network ?hc_Network ?mo_Network ?ic_Network ?ty_Network ?na_Network_start ?na_Network_end ?na_Network_links ?na_Network_places ?na_Network_behind ?a_valid_name ?l_valid_name ?c_valid_name ?k_valid_name ?a_as_ratio ?l_as_ratio ?c_as_ratio ?k_as_ratio ?a_ordered_places ?l_ordered_places ?c_ordered_places ?k_ordered_places ?a_places_behind ?l_places_behind ?c_places_behind ?k_places_behind ?a_useful_names ?l_useful_names ?c_useful_names ?k_useful_names ?a_check_ends ?l_check_ends ?c_check_ends ?k_check_ends ?a_check_names ?l_check_names ?c_check_names ?k_check_names ?a_check_rounds ?l_check_rounds ?c_check_rounds ?k_check_rounds ?a_check_use ?l_check_use ?c_check_use ?k_check_use ?a_outflow ?l_outflow ?c_outflow ?k_outflow ?a_cut_load ?l_cut_load ?c_cut_load ?k_cut_load ?a_check_loads ?l_check_loads ?c_check_loads ?k_check_loads ?a_start ?l_start ?c_start ?k_start ?a_take ?l_take ?c_take ?k_take ?a_shuffled ?l_shuffled ?c_shuffled ?k_shuffled ?a_grown ?l_grown ?c_grown ?k_grown ?a_named ?l_named ?c_named ?k_named ?a_network ?l_network ?c_network ?k_network ?a_ways ?l_ways ?c_ways ?k_ways ?a_loads ?l_loads ?c_loads ?k_loads ?a_amounts ?l_amounts ?c_amounts ?k_amounts ?a_ratios ?l_ratios ?c_ratios ?k_ratios ?a_told ?l_told ?c_told ?k_told ?a_due ?l_due ?c_due ?k_due ?a_BadName_init ?i_BadName_init ?l_BadName_init ?c_BadName_init ?k_BadName_init ?a_DuplicateName_init ?i_DuplicateName_init ?l_DuplicateName_init ?c_DuplicateName_init ?k_DuplicateName_init ?a_UnknownName_init ?i_UnknownName_init ?l_UnknownName_init ?c_UnknownName_init ?k_UnknownName_init ?a_BadCount_init ?i_BadCount_init ?l_BadCount_init ?c_BadCount_init ?k_BadCount_init ?a_HasRound_init ?i_HasRound_init ?l_HasRound_init ?c_HasRound_init ?k_HasRound_init ?a_UselessLink_init ?i_UselessLink_init ?l_UselessLink_init ?c_UselessLink_init ?k_UselessLink_init ?a_Ratio_init ?i_Ratio_init ?l_Ratio_init ?c_Ratio_init ?k_Ratio_init ?t_Ratio_init ?a_Ratio_top ?pg_Ratio_top ?pt_Ratio_top ?pr_Ratio_top ?l_Ratio_top ?c_Ratio_top ?k_Ratio_top ?a_Ratio_bottom ?pg_Ratio_bottom ?pt_Ratio_bottom ?pr_Ratio_bottom ?l_Ratio_bottom ?c_Ratio_bottom ?k_Ratio_bottom ?a_Ratio_neg ?i_Ratio_neg ?l_Ratio_neg ?c_Ratio_neg ?k_Ratio_neg ?a_Ratio_add ?i_Ratio_add ?l_Ratio_add ?c_Ratio_add ?k_Ratio_add ?a_Ratio_sub ?i_Ratio_sub ?l_Ratio_sub ?c_Ratio_sub ?k_Ratio_sub ?a_Ratio_eq ?i_Ratio_eq ?l_Ratio_eq ?c_Ratio_eq ?k_Ratio_eq ?a_Network_init ?i_Network_init ?l_Network_init ?c_Network_init ?k_Network_init ?a_Network_names ?pg_Network_names ?pt_Network_names ?pr_Network_names ?l_Network_names ?c_Network_names ?k_Network_names ?a_Network_places ?pg_Network_places ?pt_Network_places ?pr_Network_places ?l_Network_places ?c_Network_places ?k_Network_places ?a_Network_getitem ?i_Network_getitem ?l_Network_getitem ?c_Network_getitem ?k_Network_getitem ?sf_Ratio ?us_Ratio ?a_Ratio_radd ?i_Ratio_radd ?i1_Ratio_add ?i2_Ratio_add ?a_Ratio_rsub ?i_Ratio_rsub ?i1_Ratio_sub ?i2_Ratio_sub ?ot_Ratio_int ?ot_Ratio_str ?ot_Ratio_NoneType ?ot_Ratio_tuple ?ot_Ratio_list ?ne_Ratio ?ob_Ratio ?rd_Network ?ga_Network ?cw_Network_MOST_LINKS ?cw_Network_MOST_PLACES ?fi_Network_getitem ?ns_Network_getitem ?cc_Ratio ?mr_Ratio ?no1_Ratio_add ?no2_Ratio_add ?no1_Ratio_sub ?no2_Ratio_sub ?x_BadName ?xs_BadName ?xe_BadName ?xt_BadName ?xk_BadName ?xg_BadName ?xh_BadName ?xd_BadName ?xc_BadName ?xm_BadName ?xi_BadName ?xf_BadName ?no_BadName_name ?x_DuplicateName ?xs_DuplicateName ?xe_DuplicateName ?xt_DuplicateName ?xk_DuplicateName ?xg_DuplicateName ?xh_DuplicateName ?xd_DuplicateName ?xc_DuplicateName ?xm_DuplicateName ?xi_DuplicateName ?xf_DuplicateName ?no_DuplicateName_name ?x_UnknownName ?xs_UnknownName ?xe_UnknownName ?xt_UnknownName ?xk_UnknownName ?xg_UnknownName ?xh_UnknownName ?xd_UnknownName ?xc_UnknownName ?xm_UnknownName ?xi_UnknownName ?xf_UnknownName ?no_UnknownName_name ?x_BadCount ?xs_BadCount ?xe_BadCount ?xt_BadCount ?xk_BadCount ?xg_BadCount ?xh_BadCount ?xd_BadCount ?xc_BadCount ?xm_BadCount ?xi_BadCount ?xf_BadCount ?no_BadCount_count ?x_HasRound ?xs_HasRound ?xe_HasRound ?xt_HasRound ?xk_HasRound ?xg_HasRound ?xh_HasRound ?xd_HasRound ?xc_HasRound ?xm_HasRound ?xi_HasRound ?xf_HasRound ?no_HasRound_name ?x_UselessLink ?xs_UselessLink ?xe_UselessLink ?xt_UselessLink ?xk_UselessLink ?xg_UselessLink ?xh_UselessLink ?xd_UselessLink ?xc_UselessLink ?xm_UselessLink ?xi_UselessLink ?xf_UselessLink ?no_UselessLink_name ?es_UnknownName_UnknownName ?q_DIGITS ?q_LETTERS ?q_LONGEST_NAME ?g_gcd ?z_abs ?z_all ?z_dict ?z_int ?z_isinstance ?z_len ?z_list ?z_max ?z_range ?z_set ?z_sorted ?z_sum ?z_tuple ?a_law ?l_law ?c_law ?k_law
    (case a_BadName => k_is)
    (case a_DuplicateName => k_is)
    (case a_UnknownName => k_is)
    (case a_BadCount => k_is)
    (case a_HasRound => k_is)
    (case a_UselessLink => k_is)
    (case a_Ratio => k_is)
    (case pg_Ratio => k_is)
    (case hd_Ratio => k_is)
    (case po_Ratio => k_is)
    (case sa_Ratio => k_is)
    (case mk_Ratio => k_is)
    (case kc_Ratio => k_is)
    (case hc_Ratio => k_is)
    (case mo_Ratio => k_is)
    (case ic_Ratio => k_is)
    (case ty_Ratio => k_is)
    (case hn_class => k_is)
    (case ht_class => k_is)
    (case na_Ratio_top => k_is)
    (case na_Ratio_bottom => k_is)
    (case su_Ratio_int => k_is)
    (case a_Network => k_is)
    (case pg_Network => k_is)
    (case hd_Network => k_is)
    (case po_Network => k_is)
    (case sa_Network => k_is)
    (case mk_Network => k_is)
    (case kc_Network => k_is)
    (case hc_Network => k_is)
    (case mo_Network => k_is)
    (case ic_Network => k_is)
    (case ty_Network => k_is)
    (case na_Network_start => k_is)
    (case na_Network_end => k_is)
    (case na_Network_links => k_is)
    (case na_Network_places => k_is)
    (case na_Network_behind => k_is)
    (case a_valid_name => k_is)
    (case l_valid_name => k_is)
    (case c_valid_name => k_is)
    (case k_valid_name => k_is)
    (case a_as_ratio => k_is)
    (case l_as_ratio => k_is)
    (case c_as_ratio => k_is)
    (case k_as_ratio => k_is)
    (case a_ordered_places => k_is)
    (case l_ordered_places => k_is)
    (case c_ordered_places => k_is)
    (case k_ordered_places => k_is)
    (case a_places_behind => k_is)
    (case l_places_behind => k_is)
    (case c_places_behind => k_is)
    (case k_places_behind => k_is)
    (case a_useful_names => k_is)
    (case l_useful_names => k_is)
    (case c_useful_names => k_is)
    (case k_useful_names => k_is)
    (case a_check_ends => k_is)
    (case l_check_ends => k_is)
    (case c_check_ends => k_is)
    (case k_check_ends => k_is)
    (case a_check_names => k_is)
    (case l_check_names => k_is)
    (case c_check_names => k_is)
    (case k_check_names => k_is)
    (case a_check_rounds => k_is)
    (case l_check_rounds => k_is)
    (case c_check_rounds => k_is)
    (case k_check_rounds => k_is)
    (case a_check_use => k_is)
    (case l_check_use => k_is)
    (case c_check_use => k_is)
    (case k_check_use => k_is)
    (case a_outflow => k_is)
    (case l_outflow => k_is)
    (case c_outflow => k_is)
    (case k_outflow => k_is)
    (case a_cut_load => k_is)
    (case l_cut_load => k_is)
    (case c_cut_load => k_is)
    (case k_cut_load => k_is)
    (case a_check_loads => k_is)
    (case l_check_loads => k_is)
    (case c_check_loads => k_is)
    (case k_check_loads => k_is)
    (case a_start => k_is)
    (case l_start => k_is)
    (case c_start => k_is)
    (case k_start => k_is)
    (case a_take => k_is)
    (case l_take => k_is)
    (case c_take => k_is)
    (case k_take => k_is)
    (case a_shuffled => k_is)
    (case l_shuffled => k_is)
    (case c_shuffled => k_is)
    (case k_shuffled => k_is)
    (case a_grown => k_is)
    (case l_grown => k_is)
    (case c_grown => k_is)
    (case k_grown => k_is)
    (case a_named => k_is)
    (case l_named => k_is)
    (case c_named => k_is)
    (case k_named => k_is)
    (case a_network => k_is)
    (case l_network => k_is)
    (case c_network => k_is)
    (case k_network => k_is)
    (case a_ways => k_is)
    (case l_ways => k_is)
    (case c_ways => k_is)
    (case k_ways => k_is)
    (case a_loads => k_is)
    (case l_loads => k_is)
    (case c_loads => k_is)
    (case k_loads => k_is)
    (case a_amounts => k_is)
    (case l_amounts => k_is)
    (case c_amounts => k_is)
    (case k_amounts => k_is)
    (case a_ratios => k_is)
    (case l_ratios => k_is)
    (case c_ratios => k_is)
    (case k_ratios => k_is)
    (case a_told => k_is)
    (case l_told => k_is)
    (case c_told => k_is)
    (case k_told => k_is)
    (case a_due => k_is)
    (case l_due => k_is)
    (case c_due => k_is)
    (case k_due => k_is)
    (case a_BadName_init => k_is)
    (case i_BadName_init => k_is)
    (case l_BadName_init => k_is)
    (case c_BadName_init => k_is)
    (case k_BadName_init => k_is)
    (case a_DuplicateName_init => k_is)
    (case i_DuplicateName_init => k_is)
    (case l_DuplicateName_init => k_is)
    (case c_DuplicateName_init => k_is)
    (case k_DuplicateName_init => k_is)
    (case a_UnknownName_init => k_is)
    (case i_UnknownName_init => k_is)
    (case l_UnknownName_init => k_is)
    (case c_UnknownName_init => k_is)
    (case k_UnknownName_init => k_is)
    (case a_BadCount_init => k_is)
    (case i_BadCount_init => k_is)
    (case l_BadCount_init => k_is)
    (case c_BadCount_init => k_is)
    (case k_BadCount_init => k_is)
    (case a_HasRound_init => k_is)
    (case i_HasRound_init => k_is)
    (case l_HasRound_init => k_is)
    (case c_HasRound_init => k_is)
    (case k_HasRound_init => k_is)
    (case a_UselessLink_init => k_is)
    (case i_UselessLink_init => k_is)
    (case l_UselessLink_init => k_is)
    (case c_UselessLink_init => k_is)
    (case k_UselessLink_init => k_is)
    (case a_Ratio_init => k_is)
    (case i_Ratio_init => k_is)
    (case l_Ratio_init => k_is)
    (case c_Ratio_init => k_is)
    (case k_Ratio_init => k_is)
    (case t_Ratio_init => k_is)
    (case a_Ratio_top => k_is)
    (case pg_Ratio_top => k_is)
    (case pt_Ratio_top => k_is)
    (case pr_Ratio_top => k_is)
    (case l_Ratio_top => k_is)
    (case c_Ratio_top => k_is)
    (case k_Ratio_top => k_is)
    (case a_Ratio_bottom => k_is)
    (case pg_Ratio_bottom => k_is)
    (case pt_Ratio_bottom => k_is)
    (case pr_Ratio_bottom => k_is)
    (case l_Ratio_bottom => k_is)
    (case c_Ratio_bottom => k_is)
    (case k_Ratio_bottom => k_is)
    (case a_Ratio_neg => k_is)
    (case i_Ratio_neg => k_is)
    (case l_Ratio_neg => k_is)
    (case c_Ratio_neg => k_is)
    (case k_Ratio_neg => k_is)
    (case a_Ratio_add => k_is)
    (case i_Ratio_add => k_is)
    (case l_Ratio_add => k_is)
    (case c_Ratio_add => k_is)
    (case k_Ratio_add => k_is)
    (case a_Ratio_sub => k_is)
    (case i_Ratio_sub => k_is)
    (case l_Ratio_sub => k_is)
    (case c_Ratio_sub => k_is)
    (case k_Ratio_sub => k_is)
    (case a_Ratio_eq => k_is)
    (case i_Ratio_eq => k_is)
    (case l_Ratio_eq => k_is)
    (case c_Ratio_eq => k_is)
    (case k_Ratio_eq => k_is)
    (case a_Network_init => k_is)
    (case i_Network_init => k_is)
    (case l_Network_init => k_is)
    (case c_Network_init => k_is)
    (case k_Network_init => k_is)
    (case a_Network_names => k_is)
    (case pg_Network_names => k_is)
    (case pt_Network_names => k_is)
    (case pr_Network_names => k_is)
    (case l_Network_names => k_is)
    (case c_Network_names => k_is)
    (case k_Network_names => k_is)
    (case a_Network_places => k_is)
    (case pg_Network_places => k_is)
    (case pt_Network_places => k_is)
    (case pr_Network_places => k_is)
    (case l_Network_places => k_is)
    (case c_Network_places => k_is)
    (case k_Network_places => k_is)
    (case a_Network_getitem => k_is)
    (case i_Network_getitem => k_is)
    (case l_Network_getitem => k_is)
    (case c_Network_getitem => k_is)
    (case k_Network_getitem => k_is)
    (case sf_Ratio => k_is)
    (case us_Ratio => k_is)
    (case a_Ratio_radd => k_is)
    (case i_Ratio_radd => k_is)
    (case i1_Ratio_add => k_is)
    (case i2_Ratio_add => k_is)
    (case a_Ratio_rsub => k_is)
    (case i_Ratio_rsub => k_is)
    (case i1_Ratio_sub => k_is)
    (case i2_Ratio_sub => k_is)
    (case ot_Ratio_int => k_is)
    (case ot_Ratio_str => k_is)
    (case ot_Ratio_NoneType => k_is)
    (case ot_Ratio_tuple => k_is)
    (case ot_Ratio_list => k_is)
    (case ne_Ratio => k_is)
    (case ob_Ratio => k_is)
    (case rd_Network => k_is)
    (case ga_Network => k_is)
    (case cw_Network_MOST_LINKS => k_is)
    (case cw_Network_MOST_PLACES => k_is)
    (case fi_Network_getitem => k_is)
    (case ns_Network_getitem => k_is)
    (case cc_Ratio => k_is)
    (case mr_Ratio => rfl)
    (case no1_Ratio_add => k_is)
    (case no2_Ratio_add => k_is)
    (case no1_Ratio_sub => k_is)
    (case no2_Ratio_sub => k_is)
    (case x_BadName => exact ⟨_, _, _, _, _, _, _, _, _, _, _, _, _, _, _, by k_is, by decide +kernel⟩)
    (case xs_BadName => k_is)
    (case xe_BadName => k_is)
    (case xt_BadName => k_is)
    (case xk_BadName => k_is)
    (case xg_BadName => k_is)
    (case xh_BadName => k_is)
    (case xd_BadName => k_is)
    (case xc_BadName => k_is)
    (case xm_BadName => k_is)
    (case xi_BadName => k_is)
    (case xf_BadName => k_is)
    (case no_BadName_name => k_is)
    (case x_DuplicateName => exact ⟨_, _, _, _, _, _, _, _, _, _, _, _, _, _, _, by k_is, by decide +kernel⟩)
    (case xs_DuplicateName => k_is)
    (case xe_DuplicateName => k_is)
    (case xt_DuplicateName => k_is)
    (case xk_DuplicateName => k_is)
    (case xg_DuplicateName => k_is)
    (case xh_DuplicateName => k_is)
    (case xd_DuplicateName => k_is)
    (case xc_DuplicateName => k_is)
    (case xm_DuplicateName => k_is)
    (case xi_DuplicateName => k_is)
    (case xf_DuplicateName => k_is)
    (case no_DuplicateName_name => k_is)
    (case x_UnknownName => exact ⟨_, _, _, _, _, _, _, _, _, _, _, _, _, _, _, by k_is, by decide +kernel⟩)
    (case xs_UnknownName => k_is)
    (case xe_UnknownName => k_is)
    (case xt_UnknownName => k_is)
    (case xk_UnknownName => k_is)
    (case xg_UnknownName => k_is)
    (case xh_UnknownName => k_is)
    (case xd_UnknownName => k_is)
    (case xc_UnknownName => k_is)
    (case xm_UnknownName => k_is)
    (case xi_UnknownName => k_is)
    (case xf_UnknownName => k_is)
    (case no_UnknownName_name => k_is)
    (case x_BadCount => exact ⟨_, _, _, _, _, _, _, _, _, _, _, _, _, _, _, by k_is, by decide +kernel⟩)
    (case xs_BadCount => k_is)
    (case xe_BadCount => k_is)
    (case xt_BadCount => k_is)
    (case xk_BadCount => k_is)
    (case xg_BadCount => k_is)
    (case xh_BadCount => k_is)
    (case xd_BadCount => k_is)
    (case xc_BadCount => k_is)
    (case xm_BadCount => k_is)
    (case xi_BadCount => k_is)
    (case xf_BadCount => k_is)
    (case no_BadCount_count => k_is)
    (case x_HasRound => exact ⟨_, _, _, _, _, _, _, _, _, _, _, _, _, _, _, by k_is, by decide +kernel⟩)
    (case xs_HasRound => k_is)
    (case xe_HasRound => k_is)
    (case xt_HasRound => k_is)
    (case xk_HasRound => k_is)
    (case xg_HasRound => k_is)
    (case xh_HasRound => k_is)
    (case xd_HasRound => k_is)
    (case xc_HasRound => k_is)
    (case xm_HasRound => k_is)
    (case xi_HasRound => k_is)
    (case xf_HasRound => k_is)
    (case no_HasRound_name => k_is)
    (case x_UselessLink => exact ⟨_, _, _, _, _, _, _, _, _, _, _, _, _, _, _, by k_is, by decide +kernel⟩)
    (case xs_UselessLink => k_is)
    (case xe_UselessLink => k_is)
    (case xt_UselessLink => k_is)
    (case xk_UselessLink => k_is)
    (case xg_UselessLink => k_is)
    (case xh_UselessLink => k_is)
    (case xd_UselessLink => k_is)
    (case xc_UselessLink => k_is)
    (case xm_UselessLink => k_is)
    (case xi_UselessLink => k_is)
    (case xf_UselessLink => k_is)
    (case no_UselessLink_name => k_is)
    (case es_UnknownName_UnknownName => k_is)
    (case q_DIGITS => k_is)
    (case q_LETTERS => k_is)
    (case q_LONGEST_NAME => k_is)
    (case g_gcd => k_is)
    (case z_abs => k_is)
    (case z_all => k_is)
    (case z_dict => k_is)
    (case z_int => k_is)
    (case z_isinstance => k_is)
    (case z_len => k_is)
    (case z_list => k_is)
    (case z_max => k_is)
    (case z_range => k_is)
    (case z_set => k_is)
    (case z_sorted => k_is)
    (case z_sum => k_is)
    (case z_tuple => k_is)
    (case a_law => k_is)
    (case l_law => k_is)
    (case c_law => k_is)
    (case k_law => k_is)

import PyProof.Rows.All
import Wide.All
import OpenK.AllK
import Wide.FinOn
import PyProof.Rows.SeqMore
import HandS.ForMost
import HandS.Exc
import HandS.TryOnly
import HandS.ExcOwn
import HandS.WordsExc
import HandS.IsInst
import HandS.Wide
import HandS.TupAny
import HandS.Flow
import HandS.FStr
import HandS.NoneIn
import HandS.SortKw
import HandS.Codes
import HandS.Steps
import HandS.DictComp
import HandS.WordsDict
import HandS.More
import HandS.Walk
import HandS.Star
import HandS.Deep
import HandS.ExcIs
import HandS.Zip
import HandS.GenList
import HandS.GenCall
import HandS.TryMany
import KE.SortData
import KE.KMinKey
import PySem.Challenge.RW_legion_k53_closed_lists_accepted
set_option Elab.async false
set_option linter.all false
set_option maxRecDepth 100000
namespace My
open PySem PySem.Spec PyProof.Rows L2
/-! ### lists that are read only, joined -/
def rCatS (K : PySem.W.Frag) : R2 := fun x y H Q => ∃ l b xs zs, x = .ref l ∧ y = .ref b ∧ SqL K H l xs ∧ SqL K H b zs ∧ xs.length + zs.length ≤ sizeLine ∧ ∀ p, H p = none → Q (.ref p) (upd H p (.lst (xs ++ zs)))
theorem op_catS {X : Cx} : OpR X (binaryOp .Add) (rCatS X.K) := by
  intro pins s σ H x y v u Q I rx ry h
  obtain ⟨l, b, xs, zs, rfl, rfl, hH, hB, hz, q⟩ := h
  cases rx
  cases ry
  obtain ⟨its, r, pl, z⟩ := I.list hH
  obtain ⟨its2, r2, pl2, z2⟩ := I.list hB
  have hl := r.length
  have hl2 := r2.length
  obtain ⟨⟨cls, dd, data, sl⟩, ho, hc, n, hd⟩ := pl.isList
  obtain ⟨⟨cls2, dd2, data2, sl2⟩, ho2, hc2, n2, hd2⟩ := pl2.isList
  simp only at hc hd hc2 hd2
  subst hc hd hc2 hd2
  have ea : its.toArray ++ its2.toArray = (its ++ its2).toArray := by simp
  refine concat_meets ⟨_, ho, rfl⟩ ⟨_, ho2, rfl⟩ noFill_list_add seq_list_add PySem.F.slot_list_add PySem.F.entry_list_add (PySem.F.args_list_add_2 _ _) (list_addW l b its.toArray its2.toArray n n2 dd dd2 sl sl2 (by rw [List.size_toArray, List.size_toArray]; omega)) ⟨ho, ho2, ?_⟩
  rw [ea]
  exact ⟨.ref _, _, I.lnew (t' := s.toks) (r.append r2) (by rw [List.length_append]; omega), rfl, q _ I.fresh⟩
/-- is True, is False, of anything -/
def rIsBl : R2 := fun x y H Q => ∃ b, y = .bl b ∧ Q (.bl (decide (x = .bl b))) H
theorem op_isBv {X : Cx} : OpR X (compareOp .Is) rIsBl := by
  intro pins s σ H x y v u Q I rx ry h
  obtain ⟨b, rfl, q⟩ := h
  cases (show u = Value.bool b from ry)
  have go : ∀ v : Value, plainIs v (.bool b) = true → (v == Value.bool b) = decide (x = .bl b) → wpAny (model X.prog X.w) X.A (compareOp .Is v (.bool b)) (EP X pins σ Q) X.xe s := fun v hp e =>
    wpAny_is_plain hp (by rw [e]; exact ⟨.bl _, H, I, rfl, q⟩)
  cases x with
  | bl c =>
    cases (show v = Value.bool c from rx)
    refine go _ rfl ?_
    cases b <;> cases c <;> rfl
  | non => cases (show v = Value.none from rx); exact go _ rfl rfl
  | int i => obtain ⟨t, rfl⟩ := (show ∃ t, v = Value.int i t from rx); exact go _ rfl rfl
  | str i => obtain ⟨t, rfl⟩ := (show ∃ t, v = Value.str i t from rx); exact go _ rfl rfl
  | byt i => obtain ⟨t, rfl⟩ := (show ∃ t, v = Value.bytes i t from rx); exact go _ rfl rfl
  | flt i => obtain ⟨t, rfl⟩ := (show ∃ t, v = Value.float i t from rx); exact go _ rfl rfl
  | ref a => cases (show v = Value.ref a from rx); exact go _ rfl rfl
  | ty a => cases (show v = Value.type a from rx); exact go _ rfl rfl
/-! ### rules with the written part named -/
section
variable {X : Cx} (K : PySem.W.Frag)
theorem ixL (h : X.K = K := by rfl) : IxR X (rIxL K) := h ▸ ix_list
theorem ixT (h : X.K = K := by rfl) : IxR X (rIxT K) := h ▸ ix_tup
theorem ixQ (h : X.K = K := by rfl) : IxR X (rIx K) := h ▸ ix_seq
theorem opIn (h : X.K = K := by rfl) : OpR X (compareOp .In) (rIn K false) := h ▸ op_in_seq
theorem opNotIn (h : X.K = K := by rfl) : OpR X (compareOp .NotIn) (rIn K true) := h ▸ op_notIn_seq
theorem opCat (h : X.K = K := by rfl) : OpR X (binaryOp .Add) (rCatS K) := h ▸ op_catS
theorem opCatT (h : X.K = K := by rfl) : OpR X (binaryOp .Add) (rCatA K) := h ▸ op_catA
theorem opEqD (hu : X.A.units + 64 < cLine) (h : X.K = K := by rfl) : OpR X (compareOp .Eq) (rEqD K) := h ▸ op_eqD hu
theorem opNeD (hu : X.A.units + 64 < cLine) (h : X.K = K := by rfl) : OpR X (compareOp .NotEq) (rNeD K) := h ▸ op_neD hu
theorem slL (h : X.K = K := by rfl) : SlR X (rSlL K) := h ▸ sl_list
theorem slT (h : X.K = K := by rfl) : SlR X (rSlT K) := h ▸ sl_tup
def rLenQ (K : PySem.W.Frag) : List V → Hp → VK → Prop := fun xs H Q => ∃ p ys, xs = [.ref p] ∧ (SqL K H p ys ∨ SqT K H p ys) ∧ Q (.int ys.length) H
theorem cLen (h : X.K = K := by rfl) : CallR X (.builtin "len") (rLenQ K) := h ▸ call_len_seq
def rListQ (K : PySem.W.Frag) : List V → Hp → VK → Prop := fun xs H Q => ∃ p ys, xs = [.ref p] ∧ (SqL K H p ys ∨ SqT K H p ys) ∧ ∀ l, H l = none → Q (.ref l) (upd H l (.lst ys))
theorem cList (h : X.K = K := by rfl) : CallR X (.type "list") (rListQ K) := h ▸ call_list_of
theorem cSum (hc : X.calm = true) (h : X.K = K := by rfl) : CallR X (.builtin "sum") (rSum K) := h ▸ cr_sum hc
theorem cAll (hc : X.calm = true) (h : X.K = K := by rfl) : CallR X (.builtin "all") (rAll K) := h ▸ cr_all hc
theorem cAny (hc : X.calm = true) (h : X.K = K := by rfl) : CallR X (.builtin "any") (rAny K) := h ▸ cr_any hc
theorem cIsi (h : X.K = K := by rfl) : CallR X (.builtin "isinstance") (rIsi K) := h ▸ call_isi
theorem peBm {T name id : String} {r : V → List V → Hp → VK → Prop} {to : TE} {t : TA} {o e : Expr} {es : List Expr} {apos cpos : Pos} (pa : PlainAttrs T) (slot : Slot T name id) (hty : typeOf (.builtin id) = pure (.type "method_descriptor")) (hm : MtR X id r) (ho : PE X o to) (ha : PA X (e :: es) t) (h : X.K = K := by rfl)
    (hbase : attributeBase o name X.env (eval o X.env) = eval o X.env := by rfl)
    (hfew : ((backTo cpos (starEach (e :: es) X.env)).all (fun x => !x.1) && (backToKw cpos (keywordEach [] X.env)).all (fun x => x.1.isSome)
      && decide ((e :: es).length + ([] : List Keyword).length + (if ([] : List Keyword).isEmpty then 0 else 1) < 30)) = true := by rfl)
    (hline : (apos.endLine == cpos.line) = true := by rfl) (hs : starEach (e :: es) X.env = (false, eval e X.env) :: starEach es X.env := by rfl) (hplain : (backTo cpos (starEach es X.env)).any (·.1) = false := by rfl) :
    PE X (.Call (.Attribute o name apos) (e :: es) [] cpos) (tBM K T r to t) := h ▸ pe_bm pa slot hty hm ho ha hbase hfew hline hs hplain
def tTruK (K : PySem.W.Frag) (ta : TE) : TT := fun σ H Q => ta σ H fun x H' => ∃ k, TruV K x H' k ∧ Q k H'
theorem ptTru {a : Expr} {ta : TE} (ha : PE X a ta) (he : ∀ whole, isTrue a X.env whole = (do let v ← whole; standAt a.pos; holding [v] (truthy v))) (h : X.K = K := by rfl) : PT X a (tTruK K ta) := h ▸ pt_truth ha he
theorem piL {tg l : Expr} {tl : TE} (hl : PE X l tl) (h : X.K = K := by rfl) : PI X tg l (iList K tl) := h ▸ pi_list hl
theorem piT {tg l : Expr} {tl : TE} (hl : PE X l tl) (h : X.K = K := by rfl) : PI X tg l (iTup K tl) := h ▸ pi_tup hl
end
/-! ### a def that is known -/
structure Fd (P : Program) (w : World) (K : PySem.W.Frag) (mg : Str → Option Value) (base : Heap) (x : Str) (ps : List Str) (k : Nat) (sp : Sp) : Prop where
  ex : ∃ (f : Addr) (fd : FuncData), FnOk P w K mg base CX0 k f fd ps sp ∧ mg x = some (.ref f) ∧ PySem.W.keepIn K (.ref f) = true ∧ Binds K fd ps []
theorem pe_fn {X : Cx} {x : Str} {ps : List Str} {k : Nat} {sp : Sp} {e : Expr} {es : List Expr} {t : TA} {p pos : Pos} (F : Fd X.prog X.w X.K X.mg X.base x ps k sp) (hr : Room k X.A) (hg : Gl X x) (ha : PA X (e :: es) t)
    (hdb : (x == ("__debug__" : Str)) = false := by decide) (he : starEach (e :: es) X.env = (false, eval e X.env) :: starEach es X.env := by rfl) (hpl : (backTo pos (starEach es X.env)).any (·.1) = false := by rfl) :
    PE X (.Call (.Name x p) (e :: es) [] pos) (tCall sp [] E0 t) := by
  obtain ⟨f, fd, G, m, kp, b⟩ := F.ex
  exact pe_call G hr hg m kp b .nil pass0 ha hdb he hpl
/-- the built-ins stand as they were -/
structure Bt (mg : Str → Option Value) : Prop where
  len : mg "len" = none
  int : mg "int" = none
  abs : mg "abs" = none
  range : mg "range" = none
  min : mg "min" = none
  str : mg "str" = none
  isinstance : mg "isinstance" = none
  bool : mg "bool" = none
  sum : mg "sum" = none
  list : mg "list" = none
  tuple : mg "tuple" = none
  repr : mg "repr" = none
  sorted : mg "sorted" = none
  enumerate : mg "enumerate" = none
  zip : mg "zip" = none
  all : mg "all" = none
  dict : mg "dict" = none
  max : mg "max" = none
  set : mg "set" = none
  ValueError : mg "ValueError" = none
/-! ### heaps -/
theorem same_new {H : Hp} {p : Addr} {o : HO} (h : H p = none) : Same H (upd H p o) := fun b x e => by
  rw [upd_ne (ne_of_none e h)]
  exact e
/-- an object that H does not know may change -/
theorem Same.mut {H H' : Hp} {p : Addr} {o : HO} (e : Same H H') (h : H p = none) : Same H (upd H' p o) := fun a u ha => by
  rw [upd_ne (ne_of_none ha h)]
  exact e a u ha
theorem sq {K : PySem.W.Frag} {H : Hp} {a : Addr} {xs : List V} (h : H a = some (.lst xs)) : SqL K H a xs := .inl (.inl h)
theorem st {K : PySem.W.Frag} {H : Hp} {a : Addr} {xs : List V} (h : H a = some (.tup xs)) : SqT K H a xs := .inl (.inl h)
theorem sz {n : Nat} (h : n ≤ 100000) : n ≤ sizeLine := Nat.le_trans h (by decide)
theorem szl {n : Nat} (h : n < 100000) : n < sizeLine := Nat.lt_of_lt_of_le h (by decide)
theorem Same.seqT {K : PySem.W.Frag} {H H' : Hp} {a : Addr} {xs : List V} (e : Same H H') (h : SqT K H a xs) : SqT K H' a xs := by
  rcases h with (h | ⟨o, h⟩) | h
  · exact .inl (.inl (e _ _ h))
  · exact .inl (.inr ⟨o, e _ _ h⟩)
  · exact .inr h
/-! ### numbers drawn below limits -/
def DOk : List Int → List Int → Prop
  | [], [] => True
  | d :: ds, m :: ms => (0 ≤ d ∧ d < m) ∧ DOk ds ms
  | _, _ => False
theorem DOk.snoc : ∀ {ds ms : List Int} {d m : Int}, DOk ds ms → 0 ≤ d → d < m → DOk (ds ++ [d]) (ms ++ [m])
  | [], [], _, _, _, h0, h1 => ⟨⟨h0, h1⟩, trivial⟩
  | [], _ :: _, _, _, h, _, _ => h.elim
  | _ :: _, [], _, _, h, _, _ => h.elim
  | _ :: _, _ :: _, _, _, h, h0, h1 => ⟨h.1, DOk.snoc h.2 h0 h1⟩
theorem DOk.len : ∀ {ds ms : List Int}, DOk ds ms → ds.length = ms.length
  | [], [], _ => rfl
  | [], _ :: _, h => h.elim
  | _ :: _, [], h => h.elim
  | _ :: _, _ :: _, h => by rw [List.length_cons, List.length_cons, DOk.len h.2]
theorem DOk.at : ∀ {ds ms : List Int} {i : Nat} {m : Int}, DOk ds ms → ms[i]? = some m → ∃ d, ds[i]? = some d ∧ 0 ≤ d ∧ d < m
  | [], [], _, _, _, e => by simp at e
  | [], _ :: _, _, _, h, _ => h.elim
  | _ :: _, [], _, _, h, _ => h.elim
  | d :: _, _ :: _, 0, m, h, e => ⟨d, rfl, h.1.1, by have := Option.some.inj e; rw [← this]; exact h.1.2⟩
  | _ :: ds, _ :: ms, i + 1, m, h, e => DOk.at (ds := ds) (ms := ms) (i := i) h.2 e
theorem DOk.cons {ds ms : List Int} {m : Int} (h : DOk ds (m :: ms)) : ∃ d r, ds = d :: r ∧ 0 ≤ d ∧ d < m ∧ DOk r ms := by
  cases ds with
  | nil => exact h.elim
  | cons d r => exact ⟨d, r, rfl, h.1.1, h.1.2, h.2⟩
theorem DOk.nil {ds : List Int} (h : DOk ds []) : ds = [] := by
  cases ds with
  | nil => rfl
  | cons d r => exact h.elim
theorem get_map {α : Type} {f : α → V} {xs : List α} {i : Nat} {x : α} (h : xs[i]? = some x) : (xs.map f)[i]? = some (f x) := by
  rw [List.getElem?_map, h]; rfl
theorem get_map_inv {α : Type} {f : α → V} {xs : List α} {i : Nat} {v : V} (h : (xs.map f)[i]? = some v) : ∃ x, xs[i]? = some x ∧ v = f x := by
  rw [List.getElem?_map] at h
  cases e : xs[i]? with
  | none => rw [e] at h; cases h
  | some x => rw [e] at h; exact ⟨x, rfl, (Option.some.inj h).symm⟩
theorem fmod_pos {a m : Int} (h : 0 < m) : 0 ≤ a.fmod m ∧ a.fmod m < m := ⟨Int.fmod_nonneg_of_pos a h, Int.fmod_lt_of_pos a h⟩
theorem take_snoc {α : Type} {xs : List α} {i : Nat} {x : α} (h : xs[i]? = some x) : xs.take (i + 1) = xs.take i ++ [x] := by
  rw [List.take_add_one, h]; rfl
end My
namespace My
open PySem PySem.Spec PyProof.Rows L2
def topS (i : Nat) : Stmt := PySem.Challenge.pw_legion_k53_closed_lists_accepted.main.body.getD i (.Pass ⟨0, 0, 0, 0⟩)
theorem atI_in {α : Type} {xs : List α} {i : Int} (h0 : 0 ≤ i) (h1 : i < xs.length) : ∃ v, atI xs i = some v ∧ v ∈ xs := by
  obtain ⟨n, rfl⟩ := Int.eq_ofNat_of_zero_le h0
  have hn : n < xs.length := by omega
  exact ⟨xs[n], atI_nat (List.getElem?_eq_getElem hn), List.getElem_mem hn⟩
theorem atI_map {α : Type} {f : α → V} {xs : List α} {i : Int} (h0 : 0 ≤ i) (h1 : i < xs.length) : ∃ v, atI (xs.map f) i = some (f v) ∧ v ∈ xs ∧ xs[i.toNat]? = some v := by
  obtain ⟨n, rfl⟩ := Int.eq_ofNat_of_zero_le h0
  have hn : n < xs.length := by omega
  exact ⟨xs[n], atI_nat (get_map (List.getElem?_eq_getElem hn)), List.getElem_mem hn, List.getElem?_eq_getElem hn⟩
theorem len_app (a b : Str) : (a ++ b).length = a.length + b.length := by
  show (a.cps ++ b.cps).size = a.cps.size + b.cps.size
  exact Array.size_append
theorem len_join0 : ∀ (parts : List Str), (∀ p ∈ parts, p.length = 1) → (Txt.join (Str.ofString "") parts).length = parts.length := by
  intro parts h
  have e : ∀ parts : List Str, (∀ p ∈ parts, p.length = 1) → (TL.joinL [] (parts.map TL.tl)).length = parts.length := by
    intro parts
    induction parts with
    | nil => intro _; rfl
    | cons p r ih =>
      intro h
      have hp : (TL.tl p).length = 1 := by
        have := h p List.mem_cons_self
        rw [← this]
        exact Array.length_toList
      have hr := ih fun q hq => h q (List.mem_cons_of_mem _ hq)
      cases r with
      | nil => show (TL.tl p).length = 1; exact hp
      | cons q r =>
        show (TL.tl p ++ ([] ++ TL.joinL [] ((q :: r).map TL.tl))).length = _
        rw [List.length_append, List.nil_append, hr, hp, List.length_cons (a := p)]
        omega
  have e2 := TL.tl_join (Str.ofString "") parts
  rw [← TL.join_eq] at e2
  have e3 : (Txt.join (Str.ofString "") parts).length = (TL.tl (Txt.join (Str.ofString "") parts)).length := Array.length_toList.symm
  rw [e3, e2, show TL.tl (Str.ofString "") = [] by decide +kernel]
  exact e parts h
theorem len_digits : ∀ k : Nat, k < 60 → ((toString (k : Int) : String) |> fun s => (Str.ofString s).length) ≤ 2 := by
  intro k hk
  have : ∀ k : Fin 60, ((toString ((k : Nat) : Int) : String) |> fun s => (Str.ofString s).length) ≤ 2 := by decide +kernel
  exact this ⟨k, hk⟩
/-! ### tests that leave the heap -/
theorem ansOr {t u : TT} {σ : L2.St} {H : Hp} {a b : Bool} (ha : Ans t σ H a) (hb : Ans u σ H b) : Ans (tOr t u) σ H (a || b) := fun Q q => ha _ (by
  cases a with
  | true => exact iteT q
  | false => exact iteF (hb Q q))
theorem ansAnd {t u : TT} {σ : L2.St} {H : Hp} {a b : Bool} (ha : Ans t σ H a) (hb : Ans u σ H b) : Ans (tAnd t u) σ H (a && b) := fun Q q => ha _ (by
  cases a with
  | true => exact iteT (hb Q q)
  | false => exact iteF q)
theorem ifS {c : TT} {t u : TS} {D : Ends} {σ : L2.St} {H : Hp} {b : Bool} (h : Ans c σ H b) (ht : b = true → t D σ H) (hu : b = false → u D σ H) : tIfS c t u D σ H := h _ (by
  cases b with
  | true => exact iteT (ht rfl)
  | false => exact iteF (hu rfl))
theorem sum_ones : ∀ {ss : List Str}, (∀ s ∈ ss, s.length = 1) → (ss.map (·.length)).sum = ss.length
  | [], _ => rfl
  | s :: r, h => by
    rw [List.map_cons, List.sum_cons, sum_ones fun x hx => h x (List.mem_cons_of_mem _ hx), h s List.mem_cons_self, List.length_cons]
    omega
theorem flat_strs (ss : List Str) : (ss.map V.str).all flatV = true := by
  rw [List.all_eq_true]
  intro v hv
  obtain ⟨s, _, rfl⟩ := List.mem_map.mp hv
  rfl
theorem szc (n : Nat) {xs : List V} (h : xs.length = n := by rfl) (hn : n ≤ 100000 := by decide) : xs.length ≤ sizeLine := by rw [h]; exact sz hn
theorem ansIsi {K : PySem.W.Frag} {te : TE} {σ : L2.St} {H : Hp} {x : V} {T T2 : String} {b : Bool} (hx : ∀ Q : VK, Q x H → te σ H Q) (ty : TyX K H x (.type T)) (hb : kitB T T2 = some b) :
    Ans (tB (tCB (rIsi K) (tCons te (tCons (tC (.ty T2)) tNil)))) σ H b := fun Q q => hx _ ⟨x, _, _, _, b, rfl, .ty T2, ty, kit_ty hb, _, rfl, q⟩
theorem ansTo {t : TT} {σ : L2.St} {H : Hp} {b b' : Bool} (h : Ans t σ H b) (e : b = b') : Ans t σ H b' := e ▸ h
/-- lo <= x <= hi over whole numbers -/
theorem ansChain {ta tb tc : TE} {σ : L2.St} {H : Hp} {i j k : Int} (ha : Val ta σ H (.int i)) (hb : Val tb σ H (.int j)) (hc : Val tc σ H (.int k)) :
    Ans (tTest (tChain (rI0 fun i j => .bl (decide (i ≤ j))) (rI0 fun i j => .bl (decide (i ≤ j))) ta tb tc)) σ H (decide (i ≤ j) && decide (j ≤ k)) := fun Q q =>
  ha _ (hb _ ⟨i, j, rfl, rfl, _, rfl, by
    by_cases h : i ≤ j
    · rw [if_pos (decide_eq_true h)]
      refine hc _ ⟨j, k, rfl, rfl, _, rfl, ?_⟩
      rw [decide_eq_true h, Bool.true_and] at q
      exact q
    · rw [if_neg (by rw [decide_eq_false h]; exact Bool.false_ne_true)]
      rw [decide_eq_false h, Bool.false_and] at q
      exact ⟨_, rfl, q⟩⟩)
theorem ifQ {c : TT} {t u r : TS} {D : Ends} {σ : L2.St} {H : Hp} {b : Bool} (h : Ans c σ H b) (ht : b = true → t { D with nx := r D } σ H) (hu : b = false → u { D with nx := r D } σ H) : tSeq (tIfS c t u) r D σ H := ifS (D := { D with nx := r D }) h ht hu
theorem noQ {c : TT} {t r : TS} {D : Ends} {σ : L2.St} {H : Hp} (h : Ans c σ H false) (q : r D σ H) : tSeq (tIfS c t tNext) r D σ H := ifQ h (fun z => nomatch z) fun _ => q
theorem noS {c : TT} {t : TS} {D : Ends} {σ : L2.St} {H : Hp} (h : Ans c σ H false) (q : D.nx σ H) : tIfS c t tNext D σ H := ifS h (fun z => nomatch z) fun _ => q
theorem ifR {c : TT} {t r : TS} {D : Ends} {σ : L2.St} {H : Hp} {b : Bool} (h : Ans c σ H b) (ht : b = true → t { D with nx := r D } σ H) (hu : b = false → r D σ H) : tSeq (tIfS c t tNext) r D σ H := ifQ h ht hu
theorem cutV_map {α : Type} (f : α → V) (xs : List α) (lo hi : Option Int) : ∃ ys : List α, cutV (xs.map f) lo hi = ys.map f ∧ ys.length ≤ xs.length ∧ ∀ y ∈ ys, y ∈ xs := by
  refine ⟨(xs.drop (HT.sIx (xs.map f).length 0 lo)).take (HT.sIx (xs.map f).length (xs.map f).length hi - HT.sIx (xs.map f).length 0 lo), ?_, ?_, ?_⟩
  · unfold cutV
    rw [List.map_take, List.map_drop]
  · rw [List.length_take, List.length_drop]
    omega
  · intro y hy
    exact List.mem_of_mem_drop (List.mem_of_mem_take hy)
theorem iteFx {c : Bool} {A B : Prop} (h : c = false) (q : B) : if c = true then A else B := by
  subst h
  exact iteF q
theorem iteTx {c : Bool} {A B : Prop} (h : c = true) (q : A) : if c = true then A else B := by
  subst h
  exact iteT q
/-! ### names -/
def lets : Str := Str.ofString "abcdefghijklmnopqrstuvwxyz"
def sgns : Str := Str.ofString "abcdefghijklmnopqrstuvwxyz0123456789"
def resv : List Str := ["share", "lock", "bell", "kind", "any", "local", "skip", "set", "acquire", "release", "rest", "wake", "start", "check", "await", "mark", "if", "else", "loop", "choose", "or", "end", "and", "not"].map Str.ofString
structure NmF (s : Str) : Prop where
  l1 : 1 ≤ s.length
  l20 : s.length ≤ 20
  hd : ∃ c r, s.cps.toList = c :: r ∧ c ∈ lets.cps.toList
  al : ∀ c ∈ s.cps.toList, c ∈ sgns.cps.toList
theorem str_len (s : Str) : s.cps.toList.length = s.length := Array.length_toList
theorem str_app (a b : Str) : (a ++ b).cps.toList = a.cps.toList ++ b.cps.toList := by
  show (a.cps ++ b.cps).toList = _
  exact Array.toList_append
theorem let_sgn {c : Nat} (h : c ∈ lets.cps.toList) : c ∈ sgns.cps.toList := by
  have e : sgns = lets ++ Str.ofString "0123456789" := by decide +kernel
  rw [e, str_app]
  exact List.mem_append_left _ h
theorem nmF_cons {s : Str} {c : Nat} {r : List Nat} (e : s.cps.toList = c :: r) (hc : c ∈ lets.cps.toList) (hr : ∀ x ∈ r, x ∈ sgns.cps.toList) (hl : r.length ≤ 19) : NmF s := by
  have := str_len s
  rw [e, List.length_cons] at this
  refine ⟨by omega, by omega, ⟨c, r, e, hc⟩, fun x hx => ?_⟩
  rw [e] at hx
  rcases List.mem_cons.mp hx with h | h
  · rw [h]; exact let_sgn hc
  · exact hr x h
def nmfB (l : List Nat) : Bool := match l with
  | [] => false
  | c :: r => decide (c ∈ lets.cps.toList) && (r.all fun x => decide (x ∈ sgns.cps.toList)) && decide (r.length ≤ 19)
theorem nmF_of {s : Str} (h : nmfB s.cps.toList = true) : NmF s := by
  cases e : s.cps.toList with
  | nil => rw [e] at h; cases h
  | cons c r =>
    rw [e] at h
    simp only [nmfB, Bool.and_eq_true, decide_eq_true_eq, List.all_eq_true] at h
    exact nmF_cons e h.1.1 h.1.2 h.2
def digL (i : Nat) : List Nat := (Str.ofString (toString (i : Int))).cps.toList
theorem dig_ok : ∀ i : Fin 31, (∃ c r, digL i = c :: r ∧ c ∉ lets.cps.toList) ∧ (∀ x ∈ digL i, x ∈ sgns.cps.toList) ∧ (digL i).length ≤ 2 := by
  have h : ∀ i : Fin 31, (match digL i with
    | [] => false
    | c :: _ => !decide (c ∈ lets.cps.toList)) = true ∧ ((digL i).all fun x => decide (x ∈ sgns.cps.toList)) = true ∧ (digL i).length ≤ 2 := by decide +kernel
  intro i
  obtain ⟨h1, h2, h3⟩ := h i
  refine ⟨?_, fun x hx => of_decide_eq_true (List.all_eq_true.mp h2 x hx), h3⟩
  cases e : digL i with
  | nil => rw [e] at h1; cases h1
  | cons c r => rw [e] at h1; exact ⟨c, r, rfl, by simpa using h1⟩
def letAt (j : Nat) : Nat := lets.cps.toList.getD j 0
theorem let_inj : ∀ a b : Fin 26, letAt a = letAt b → a = b := by decide +kernel
theorem let_in : ∀ a : Fin 26, letAt a ∈ lets.cps.toList := by decide +kernel
def candL (i j : Nat) : List Nat := letAt (j % 26) :: (digL i ++ if j < 26 then [] else [120])
theorem cand_f {i j : Nat} (hi : i < 31) (s : Str) (e : s.cps.toList = candL i j) : NmF s := by
  obtain ⟨_, h2, h3⟩ := dig_ok ⟨i, hi⟩
  refine nmF_cons e (let_in ⟨j % 26, by omega⟩) (fun x hx => ?_) ?_
  · rcases List.mem_append.mp hx with h | h
    · exact h2 x h
    · split at h
      · cases h
      · rw [List.mem_singleton.mp h]; decide +kernel
  · rw [List.length_append]
    have : (if j < 26 then [] else [120] : List Nat).length ≤ 1 := by split <;> decide
    have h3' : (digL i).length ≤ 2 := h3
    omega
theorem resv_let : ∀ s ∈ resv, ∀ c ∈ s.cps.toList, c ∈ lets.cps.toList := by decide +kernel
theorem cand_nr {i j : Nat} (hi : i < 31) (s : Str) (e : s.cps.toList = candL i j) : s ∉ resv := fun hm => by
  obtain ⟨⟨c, r, ec, hc⟩, _⟩ := dig_ok ⟨i, hi⟩
  refine hc (resv_let s hm c ?_)
  rw [e]
  have : digL i = c :: r := ec
  unfold candL
  rw [this]
  exact List.mem_cons_of_mem _ (List.mem_append_left _ List.mem_cons_self)
theorem cand_inj {i j k : Nat} (hj : j < 52) (hk : k < 52) (e : candL i j = candL i k) : j = k := by
  have h1 : letAt (j % 26) = letAt (k % 26) := (List.cons.inj e).1
  have h2 := congrArg List.length (List.cons.inj e).2
  have h3 := congrArg Fin.val (let_inj ⟨j % 26, by omega⟩ ⟨k % 26, by omega⟩ h1)
  have h4 : j % 26 = k % 26 := h3
  rw [List.length_append, List.length_append] at h2
  split at h2 <;> split at h2 <;> simp only [List.length_nil, List.length_cons] at h2 <;> omega
theorem pigeon {α : Type} [BEq α] [LawfulBEq α] : ∀ (xs ys : List α), xs.Nodup → (∀ x ∈ xs, x ∈ ys) → xs.length ≤ ys.length
  | [], _, _, _ => Nat.zero_le _
  | x :: r, ys, hn, h => by
    have hx := h x List.mem_cons_self
    obtain ⟨hnx, hnr⟩ := List.nodup_cons.mp hn
    have ih := pigeon r (ys.erase x) hnr fun y hy => (List.mem_erase_of_ne fun (e : y = x) => hnx (e ▸ hy)).mpr (h y (List.mem_cons_of_mem _ hy))
    rw [List.length_erase_of_mem hx] at ih
    have := List.length_pos_of_mem hx
    rw [List.length_cons]
    omega
/-- of 52 names one is free -/
theorem cand_free {i : Nat} (hi : i < 31) {ss : List Str} (hl : ss.length < 52) (h : ∀ j < 52, ∀ s : Str, s.cps.toList = candL i j → s ∈ ss ∨ s ∈ resv) : False := by
  have hs : ∀ j < 52, candL i j ∈ ss.map fun s => s.cps.toList := fun j hj => by
    have e : ((⟨(candL i j).toArray⟩ : Str)).cps.toList = candL i j := rfl
    rcases h j hj _ e with m | m
    · exact List.mem_map.mpr ⟨_, m, e⟩
    · exact absurd m (cand_nr hi _ e)
  have hn : ((List.range 52).map (candL i)).Nodup := by
    refine List.nodup_iff_pairwise_ne.mpr ?_ |> fun z => z
    rw [List.pairwise_map]
    refine List.Pairwise.imp_of_mem (fun {a b} ha hb hab e => ?_) (List.nodup_iff_pairwise_ne.mp List.nodup_range)
    exact hab (cand_inj (List.mem_range.mp ha) (List.mem_range.mp hb) e)
  have := pigeon _ _ hn fun x hx => by
    obtain ⟨j, hj, rfl⟩ := List.mem_map.mp hx
    exact hs j (List.mem_range.mp hj)
  rw [List.length_map, List.length_map, List.length_range] at this
  omega
theorem cut_x : ∀ j : Fin 52, (cutS (Str.ofString "x") none (some (((j : Nat) : Int) / 26))).cps.toList = (if (j : Nat) < 26 then [] else [120]) := by decide +kernel
structure NmsOk (ss : List Str) : Prop where
  f : ∀ s ∈ ss, NmF s
  r : ∀ s ∈ ss, s ∉ resv
  nd : ss.Nodup
theorem NmsOk.snoc {ss : List Str} {s : Str} (h : NmsOk ss) (hf : NmF s) (hr : s ∉ resv) (hs : s ∉ ss) : NmsOk (ss ++ [s]) where
  f := fun x hx => by
    rcases List.mem_append.mp hx with m | m
    · exact h.f x m
    · rw [List.mem_singleton.mp m]; exact hf
  r := fun x hx => by
    rcases List.mem_append.mp hx with m | m
    · exact h.r x m
    · rw [List.mem_singleton.mp m]; exact hr
  nd := by
    refine List.nodup_append.mpr ⟨h.nd, List.nodup_cons.mpr ⟨(fun m => by cases m), List.nodup_nil⟩, fun a ha b hb e => ?_⟩
    rw [List.mem_singleton.mp hb] at e
    exact hs (e ▸ ha)
theorem inV_iff {l : Str} {xs : List Str} : inV (V.str l) (xs.map V.str) = true ↔ l ∈ xs := by
  unfold inV
  rw [List.any_map, List.any_eq_true]
  constructor
  · rintro ⟨x, hx, h⟩
    have : (x == l) = true := h
    rw [← eq_of_beq this]
    exact hx
  · intro h
    exact ⟨l, h, (beq_self_eq_true l : (l == l) = true)⟩
theorem mem_join0 {S : List Nat} : ∀ (parts : List Str), (∀ p ∈ parts, ∀ c ∈ p.cps.toList, c ∈ S) → ∀ c ∈ (Txt.join (Str.ofString "") parts).cps.toList, c ∈ S := by
  intro parts h c hc
  have e2 := TL.tl_join (Str.ofString "") parts
  rw [← TL.join_eq, show TL.tl (Str.ofString "") = [] by decide +kernel] at e2
  have e3 : (Txt.join (Str.ofString "") parts).cps.toList = TL.joinL [] (parts.map TL.tl) := e2
  rw [e3] at hc
  clear e2 e3
  induction parts with
  | nil => cases hc
  | cons p r ih =>
    cases r with
    | nil => exact h p List.mem_cons_self c hc
    | cons q r =>
      have hc2 : c ∈ TL.tl p ++ ([] ++ TL.joinL [] ((q :: r).map TL.tl)) := hc
      rw [List.nil_append] at hc2
      rcases List.mem_append.mp hc2 with m | m
      · exact h p List.mem_cons_self c m
      · exact ih (fun p hp => h p (List.mem_cons_of_mem _ hp)) m
theorem str_ext {a b : Str} (h : a.cps.toList = b.cps.toList) : a = b := by
  cases a; cases b
  have := Array.toList_inj.mp h
  simp only at this
  rw [this]
/-! ### values and conditions as trees -/
theorem Fd.none {P : Program} {w : World} {K : PySem.W.Frag} {mg : Str → Option Value} {base : Heap} {x qual : Str} {st : Stmt} {f : Addr} {fd : FuncData} {ps : List Str} {k : Nat} {sp : Sp} (F : Fun K x qual st f fd) (m : mg x = some (.ref f)) (b : Binds K fd ps [])
    (no : ∀ vs H Q E, ¬ sp vs H Q E) : Fd P w K mg base x ps k sp := ⟨f, fd, ⟨fun vs H Q E h => absurd h (no vs H Q E), fun A outer s H args us vs Q E _ _ _ _ h => absurd h (no vs H Q E)⟩, m, F.kp, b⟩
theorem yesQ {c : TT} {t u r : TS} {D : Ends} {σ : L2.St} {H : Hp} (h : Ans c σ H true) (q : t { D with nx := r D } σ H) : tSeq (tIfS c t u) r D σ H := ifQ h (fun _ => q) fun z => nomatch z
theorem yesS {c : TT} {t u : TS} {D : Ends} {σ : L2.St} {H : Hp} (h : Ans c σ H true) (q : t D σ H) : tIfS c t u D σ H := ifS h (fun _ => q) fun z => nomatch z
/-- what is new in H' over H -/
def Nw (H H' : Hp) : Hp := fun a => match H a with
  | none => H' a
  | some _ => none
theorem nw_at {H H' : Hp} {a : Addr} (h : H a = none) : Nw H H' a = H' a := by
  unfold Nw
  rw [h]
theorem nw_old {H H' : Hp} {a : Addr} {o : HO} (h : H a = some o) : Nw H H' a = none := by
  unfold Nw
  rw [h]
theorem nw_some {H H' : Hp} {a : Addr} {o : HO} (h : Nw H H' a = some o) : H a = none ∧ H' a = some o := by
  cases e : H a with
  | none => rw [nw_at e] at h; exact ⟨rfl, h⟩
  | some x => rw [nw_old e] at h; cases h
theorem nw_same {H H' : Hp} : Same (Nw H H') H' := fun _ _ h => (nw_some h).2
theorem nw_mono {H H1 H2 H3 : Hp} (a : Same H H1) (b : Same H2 H3) : Same (Nw H1 H2) (Nw H H3) := fun x o h => by
  obtain ⟨h1, h2⟩ := nw_some h
  rw [nw_at (a.free h1)]
  exact b x o h2
/-- what is there is there -/
def Dm (H H' : Hp) : Prop := ∀ a, H' a = none → H a = none
theorem Same.dm {H H' : Hp} (s : Same H H') : Dm H H' := fun _ h => s.free h
theorem Dm.trans {H H1 H2 : Hp} (a : Dm H H1) (b : Dm H1 H2) : Dm H H2 := fun x h => a x (b x h)
theorem dm_upd {H H' : Hp} {D : Addr} {o u : HO} (s : Same H H') (h : H' D = some o) : Dm (upd H D u) H' := fun a ha => by
  have hne : a ≠ D := fun e => by rw [e, h] at ha; cases ha
  rw [upd_ne hne]
  exact s.free ha
theorem dm_up {H : Hp} {D : Addr} {u : HO} : Dm H (upd H D u) := fun a ha => by
  by_cases e : a = D
  · rw [e, upd_same] at ha; cases ha
  · rw [upd_ne e] at ha; exact ha
theorem nw_mono2 {H H1 H2 H3 : Hp} (a : Dm H H1) (b : Same H2 H3) : Same (Nw H1 H2) (Nw H H3) := fun x o h => by
  obtain ⟨h1, h2⟩ := nw_some h
  rw [nw_at (a x h1)]
  exact b x o h2
theorem nw_upd {H H' : Hp} {a : Addr} {o u : HO} (h : H a = some o) : Same (Nw H H') (Nw H (upd H' a u)) := fun x y e => by
  obtain ⟨h1, h2⟩ := nw_some e
  rw [nw_at h1, upd_ne (ne_of_none h h1).symm]
  exact h2
inductive Ar where
  | add | sub | mul
def Ar.tx : Ar → Str
  | .add => Str.ofString "+"
  | .sub => Str.ofString "-"
  | .mul => Str.ofString "*"
def Ar.ev : Ar → Int → Int → Int
  | .add, a, b => a + b
  | .sub, a, b => a - b
  | .mul, a, b => a * b
inductive VT where
  | int (i : Int) | nm (s : Str) | op (o : Ar) (a b : VT)
def VT.ht : VT → Nat
  | .op _ a b => max a.ht b.ht + 1
  | _ => 0
def RVal (H : Hp) : VT → V → Prop
  | .int i, v => v = .int i
  | .nm s, v => v = .str s
  | .op o a b, v => ∃ t x y, v = .ref t ∧ H t = some (.tup [.str o.tx, x, y]) ∧ RVal H a x ∧ RVal H b y
theorem RVal.mono {H H' : Hp} (e : Same H H') : ∀ {t : VT} {v : V}, RVal H t v → RVal H' t v
  | .int _, _, h => h
  | .nm _, _, h => h
  | .op _ _ _, _, ⟨t, x, y, e1, e2, ha, hb⟩ => ⟨t, x, y, e1, e _ _ e2, RVal.mono e ha, RVal.mono e hb⟩
def look (kvs : List (Key × V)) (s : Str) : Int := match valV kvs (Sum.inr s) with
  | some (.int i) => i
  | _ => 0
def VT.ev (kvs : List (Key × V)) : VT → Int
  | .int i => i
  | .nm s => look kvs s
  | .op o a b => o.ev (a.ev kvs) (b.ev kvs)
def VT.wt : VT → Nat
  | .op _ a b => a.wt + b.wt
  | _ => 8
def Fine (kvs : List (Key × V)) : VT → Prop
  | .int i => i.natAbs < 256
  | .nm s => ∃ i : Int, valV kvs (Sum.inr s) = some (.int i) ∧ i.natAbs < 256
  | .op _ a b => Fine kvs a ∧ Fine kvs b
theorem VT.wt_pos : ∀ t : VT, 8 ≤ t.wt
  | .int _ => Nat.le_refl 8
  | .nm _ => Nat.le_refl 8
  | .op _ a b => by show 8 ≤ a.wt + b.wt; have := a.wt_pos; omega
theorem pow_add_le {a b x y : Nat} (ha : x < 2 ^ a) (hb : y < 2 ^ b) (h1 : 1 ≤ a) (h2 : 1 ≤ b) : x + y < 2 ^ (a + b) := by
  have ea : 2 ^ (a + b) = 2 ^ a * 2 ^ b := Nat.pow_add 2 a b
  have h3 : 2 ≤ 2 ^ a := by
    have := Nat.pow_le_pow_right (show 0 < 2 by decide) h1
    omega
  have h4 : 2 ≤ 2 ^ b := by
    have := Nat.pow_le_pow_right (show 0 < 2 by decide) h2
    omega
  generalize 2 ^ a = u at *
  generalize 2 ^ b = v at *
  rw [ea]
  have h5 : u + v ≤ u * v := by
    rcases Nat.le_total u v with h | h
    · have := Nat.mul_le_mul_right v h3
      omega
    · have := Nat.mul_le_mul_left u h4
      omega
  omega
theorem ev_lt {kvs : List (Key × V)} : ∀ {t : VT}, Fine kvs t → (t.ev kvs).natAbs < 2 ^ t.wt
  | .int i, h => h
  | .nm s, ⟨i, e, h⟩ => by
    show (look kvs s).natAbs < 2 ^ 8
    unfold look
    rw [e]
    exact h
  | .op o a b, ⟨ha, hb⟩ => by
    have h1 := ev_lt ha
    have h2 := ev_lt hb
    have p1 := a.wt_pos
    have p2 := b.wt_pos
    have h3 := pow_add_le h1 h2 (by omega) (by omega)
    show (o.ev (a.ev kvs) (b.ev kvs)).natAbs < 2 ^ (a.wt + b.wt)
    cases o with
    | add => show (a.ev kvs + b.ev kvs).natAbs < _; omega
    | sub => show (a.ev kvs - b.ev kvs).natAbs < _; omega
    | mul => exact wide_lt h1 h2
inductive Cp where
  | eq | lt | le
def Cp.tx : Cp → Str
  | .eq => Str.ofString "="
  | .lt => Str.ofString "<"
  | .le => Str.ofString "<="
def Cp.ev : Cp → Int → Int → Bool
  | .eq, a, b => decide (V.int a = V.int b)
  | .lt, a, b => decide (a < b)
  | .le, a, b => decide (a ≤ b)
inductive CT where
  | bl (b : Bool) | no (c : CT) | an (a b : CT) | or (a b : CT) | cp (o : Cp) (a b : VT)
def CT.ht : CT → Nat
  | .bl _ => 0
  | .no c => c.ht + 1
  | .an a b => max a.ht b.ht + 1
  | .or a b => max a.ht b.ht + 1
  | .cp _ _ _ => 0
def RCond (H : Hp) : CT → V → Prop
  | .bl b, v => v = .bl b
  | .no c, v => ∃ t x, v = .ref t ∧ H t = some (.tup [.str (Str.ofString "not"), x]) ∧ RCond H c x
  | .an a b, v => ∃ t x y, v = .ref t ∧ H t = some (.tup [.str (Str.ofString "and"), x, y]) ∧ RCond H a x ∧ RCond H b y
  | .or a b, v => ∃ t x y, v = .ref t ∧ H t = some (.tup [.str (Str.ofString "or"), x, y]) ∧ RCond H a x ∧ RCond H b y
  | .cp o a b, v => ∃ t x y, v = .ref t ∧ H t = some (.tup [.str o.tx, x, y]) ∧ RVal H a x ∧ RVal H b y
theorem RCond.mono {H H' : Hp} (e : Same H H') : ∀ {t : CT} {v : V}, RCond H t v → RCond H' t v
  | .bl _, _, h => h
  | .no _, _, ⟨t, x, e1, e2, ha⟩ => ⟨t, x, e1, e _ _ e2, RCond.mono e ha⟩
  | .an _ _, _, ⟨t, x, y, e1, e2, ha, hb⟩ => ⟨t, x, y, e1, e _ _ e2, RCond.mono e ha, RCond.mono e hb⟩
  | .or _ _, _, ⟨t, x, y, e1, e2, ha, hb⟩ => ⟨t, x, y, e1, e _ _ e2, RCond.mono e ha, RCond.mono e hb⟩
  | .cp _ _ _, _, ⟨t, x, y, e1, e2, ha, hb⟩ => ⟨t, x, y, e1, e _ _ e2, RVal.mono e ha, RVal.mono e hb⟩
def CT.ev (kvs : List (Key × V)) : CT → Bool
  | .bl b => b
  | .no c => !c.ev kvs
  | .an a b => a.ev kvs && b.ev kvs
  | .or a b => a.ev kvs || b.ev kvs
  | .cp o a b => o.ev (a.ev kvs) (b.ev kvs)
/-- every value in it is fine, of height below n and of weight at most m -/
def CFine (kvs : List (Key × V)) (n m : Nat) : CT → Prop
  | .bl _ => True
  | .no c => CFine kvs n m c
  | .an a b => CFine kvs n m a ∧ CFine kvs n m b
  | .or a b => CFine kvs n m a ∧ CFine kvs n m b
  | .cp _ a b => (Fine kvs a ∧ a.ht < n ∧ a.wt ≤ m) ∧ Fine kvs b ∧ b.ht < n ∧ b.wt ≤ m
/-! ### data: what stands in the heap, at any depth -/
mutual
theorem dp_mono {K : PySem.W.Frag} {H H' : Hp} (e : Same H H') : ∀ {v : V} {d : PyData}, Dp K H v d → Dp K H' v d
  | _, .none, .non => .non
  | _, .bool _, .bl b => .bl b
  | _, .int _, .int i => .int i
  | _, .str _, .str x => .str x
  | _, .list _, .lst h a => .lst (e.seq h) (dpAll_mono e a)
  | _, .tuple _, .tup h a => .tup (Same.seqT e h) (dpAll_mono e a)
theorem dpAll_mono {K : PySem.W.Frag} {H H' : Hp} (e : Same H H') : ∀ {vs : List V} {ds : List PyData}, DpAll K H vs ds → DpAll K H' vs ds
  | _, [], .nil => .nil
  | _, _ :: _, .cons h t => .cons (dp_mono e h) (dpAll_mono e t)
end
theorem dpa_len {K : PySem.W.Frag} {H : Hp} : ∀ {ds : List PyData} {vs : List V}, DpAll K H vs ds → vs.length = ds.length
  | [], _, .nil => rfl
  | _ :: _, _, .cons _ t => congrArg (· + 1) (dpa_len t)
theorem dpa_at {K : PySem.W.Frag} {H : Hp} : ∀ {ds : List PyData} {vs : List V}, DpAll K H vs ds → ∀ {i : Nat} {v : V}, vs[i]? = some v → ∃ d, ds[i]? = some d ∧ Dp K H v d
  | [], _, .nil, i, v, h => by simp at h
  | _ :: _, _, .cons a t, 0, v, h => by
    have := Option.some.inj h
    subst this
    exact ⟨_, rfl, a⟩
  | _ :: _, _, .cons a t, i + 1, v, h => dpa_at t (i := i) h
theorem dpa_at' {K : PySem.W.Frag} {H : Hp} : ∀ {ds : List PyData} {vs : List V}, DpAll K H vs ds → ∀ {i : Nat} {d : PyData}, ds[i]? = some d → ∃ v, vs[i]? = some v ∧ Dp K H v d
  | [], _, .nil, i, v, h => by simp at h
  | _ :: _, _, .cons a t, 0, v, h => by
    have := Option.some.inj h
    subst this
    exact ⟨_, rfl, a⟩
  | _ :: _, _, .cons a t, i + 1, v, h => dpa_at' t (i := i) h
theorem dpa_app {K : PySem.W.Frag} {H : Hp} : ∀ {ds es : List PyData} {vs us : List V}, DpAll K H vs ds → DpAll K H us es → DpAll K H (vs ++ us) (ds ++ es)
  | [], _, _, _, .nil, b => b
  | _ :: _, _, _, _, .cons a t, b => .cons a (dpa_app t b)
theorem dpa_strs {K : PySem.W.Frag} {H : Hp} : ∀ ss : List Str, DpAll K H (ss.map V.str) (ss.map PyData.str)
  | [] => .nil
  | s :: r => .cons (.str s) (dpa_strs r)
theorem dpa_ints {K : PySem.W.Frag} {H : Hp} : ∀ ss : List Int, DpAll K H (ss.map V.int) (ss.map PyData.int)
  | [] => .nil
  | s :: r => .cons (.int s) (dpa_ints r)
/-- a tuple of data -/
theorem dp_tup {K : PySem.W.Frag} {H : Hp} {v : V} {ds : List PyData} (h : Dp K H v (.tuple ds)) : ∃ a xs, v = .ref a ∧ SqT K H a xs ∧ DpAll K H xs ds := by
  cases h with
  | tup hs ha => exact ⟨_, _, rfl, hs, ha⟩
theorem dp_lst {K : PySem.W.Frag} {H : Hp} {v : V} {ds : List PyData} (h : Dp K H v (.list ds)) : ∃ a xs, v = .ref a ∧ SqL K H a xs ∧ DpAll K H xs ds := by
  cases h with
  | lst hs ha => exact ⟨_, _, rfl, hs, ha⟩
theorem dp_str {K : PySem.W.Frag} {H : Hp} {v : V} {s : Str} (h : Dp K H v (.str s)) : v = .str s := by cases h; rfl
theorem dp_int {K : PySem.W.Frag} {H : Hp} {v : V} {s : Int} (h : Dp K H v (.int s)) : v = .int s := by cases h; rfl
theorem dpa_cons {K : PySem.W.Frag} {H : Hp} {vs : List V} {d : PyData} {ds : List PyData} (h : DpAll K H vs (d :: ds)) : ∃ v r, vs = v :: r ∧ Dp K H v d ∧ DpAll K H r ds := by
  cases h with
  | cons a t => exact ⟨_, _, rfl, a, t⟩
theorem dpa_nil {K : PySem.W.Frag} {H : Hp} {vs : List V} (h : DpAll K H vs []) : vs = [] := by cases h; rfl
theorem dpa_strsE {K : PySem.W.Frag} {H : Hp} : ∀ {ss : List Str} {vs : List V}, DpAll K H vs (ss.map PyData.str) → vs = ss.map V.str
  | [], _, h => dpa_nil h
  | s :: r, _, h => by
    obtain ⟨v, q, rfl, a, t⟩ := dpa_cons h
    rw [dp_str a, dpa_strsE t]
    rfl
/-! ### data that can be shown and compared -/
mutual
def nice : PyData → Bool
  | .none | .bool _ => true
  | .int i => decide (i.natAbs < 10 ^ 7)
  | .str s => (s.cps.toList.all fun c => decide (c < 128)) && decide (s.length ≤ 20)
  | .list xs | .tuple xs => niceAll xs
  | .dict _ => false
def niceAll : List PyData → Bool
  | [] => true
  | x :: xs => nice x && niceAll xs
end
mutual
def cells : PyData → Nat
  | .list xs | .tuple xs => cellsAll xs + 1
  | .none | .bool _ | .int _ | .str _ | .dict _ => 1
def cellsAll : List PyData → Nat
  | [] => 0
  | x :: xs => cells x + cellsAll xs
end
mutual
theorem nice_lay : ∀ d : PyData, nice d = true → d.canLay0 = true
  | .none, _ => rfl
  | .bool _, _ => rfl
  | .int _, _ => rfl
  | .str s, h => by
    simp only [nice, Bool.and_eq_true, List.all_eq_true, decide_eq_true_eq] at h
    show (s.cps.all fun c => decide (c < 0x110000)) = true
    rw [← Array.all_toList, List.all_eq_true]
    intro c hc
    have := h.1 c hc
    exact decide_eq_true (by omega)
  | .list xs, h => by
    show PyData.canLayAll0 xs = true
    exact nice_layAll xs h
  | .tuple xs, h => by
    show PyData.canLayAll0 xs = true
    exact nice_layAll xs h
  | .dict _, h => nomatch h
theorem nice_layAll : ∀ xs : List PyData, niceAll xs = true → PyData.canLayAll0 xs = true
  | [], _ => rfl
  | x :: xs, h => by
    have h' : nice x = true ∧ niceAll xs = true := by simpa only [niceAll, Bool.and_eq_true] using h
    show (x.canLay0 && PyData.canLayAll0 xs) = true
    rw [nice_lay x h'.1, nice_layAll xs h'.2]
    rfl
end
mutual
theorem nice_short : ∀ d : PyData, nice d = true → d.leavesShort 8 = true ∧ d.showable = true
  | .none, _ => ⟨rfl, rfl⟩
  | .bool _, _ => ⟨rfl, rfl⟩
  | .int i, h => by
    have h1 : i.natAbs < 10 ^ 7 := by simpa only [nice, decide_eq_true_eq] using h
    refine ⟨?_, ?_⟩
    · show decide ((Str.ofString (toString i)).length ≤ 8) = true
      have := int_text_length_le10 (a := i) (k := 7) (by decide) h1
      refine decide_eq_true ?_
      rw [PySem.ofString_length]
      exact this
    · show decide (i.natAbs.log2 < 1920) = true
      refine decide_eq_true ?_
      have h2 : i.natAbs.log2 ≤ i.natAbs := Nat.log2_le_self _
      by_cases h0 : i.natAbs = 0
      · rw [h0]; decide
      · rw [Nat.log2_lt h0]
        exact Nat.lt_of_lt_of_le h1 (by decide +kernel)
  | .str s, h => by
    simp only [nice, Bool.and_eq_true, List.all_eq_true, decide_eq_true_eq] at h
    refine ⟨?_, rfl⟩
    show (s.cps.toList.all fun c => decide (c < 16 ^ 8)) = true
    rw [List.all_eq_true]
    intro c hc
    have := h.1 c hc
    exact decide_eq_true (Nat.lt_of_lt_of_le this (by decide))
  | .list xs, h => nice_shortAll xs h
  | .tuple xs, h => nice_shortAll xs h
  | .dict _, h => nomatch h
theorem nice_shortAll : ∀ xs : List PyData, niceAll xs = true → PyData.leavesShortAll 8 xs = true ∧ PyData.showableAll xs = true
  | [], _ => ⟨rfl, rfl⟩
  | x :: xs, h => by
    have h' : nice x = true ∧ niceAll xs = true := by simpa only [niceAll, Bool.and_eq_true] using h
    obtain ⟨a1, a2⟩ := nice_short x h'.1
    obtain ⟨b1, b2⟩ := nice_shortAll xs h'.2
    refine ⟨?_, ?_⟩
    · show (x.leavesShort 8 && PyData.leavesShortAll 8 xs) = true
      rw [a1, b1]; rfl
    · show (x.showable && PyData.showableAll xs) = true
      rw [a2, b2]; rfl
end
mutual
theorem nice_bulk : ∀ d : PyData, nice d = true → d.bulk + 1 ≤ 21 * cells d
  | .none, _ => by decide
  | .bool _, _ => by show 0 + 1 ≤ 21 * 1; decide
  | .int _, _ => by show 0 + 1 ≤ 21 * 1; decide
  | .str s, h => by
    simp only [nice, Bool.and_eq_true, List.all_eq_true, decide_eq_true_eq] at h
    have : s.cps.size ≤ 20 := h.2
    show s.cps.size + 1 ≤ 21 * 1
    omega
  | .list xs, h => by
    have := nice_bulkAll xs h
    show PyData.bulkAll xs + 1 ≤ 21 * (cellsAll xs + 1)
    omega
  | .tuple xs, h => by
    have := nice_bulkAll xs h
    show PyData.bulkAll xs + 1 ≤ 21 * (cellsAll xs + 1)
    omega
  | .dict _, h => nomatch h
theorem nice_bulkAll : ∀ xs : List PyData, niceAll xs = true → PyData.bulkAll xs ≤ 21 * cellsAll xs
  | [], _ => by decide
  | x :: xs, h => by
    have h' : nice x = true ∧ niceAll xs = true := by simpa only [niceAll, Bool.and_eq_true] using h
    have h1 := nice_bulk x h'.1
    have h2 := nice_bulkAll xs h'.2
    show x.bulk + 1 + PyData.bulkAll xs ≤ 21 * (cells x + cellsAll xs)
    omega
end
structure NcD (d : PyData) (c m : Nat) : Prop where
  ni : nice d = true
  ce : cells d ≤ c
  de : d.depth ≤ m
structure NcL (ds : List PyData) (c m : Nat) : Prop where
  ni : niceAll ds = true
  ce : cellsAll ds ≤ c
  de : PyData.depthAll ds ≤ m
theorem NcD.mono {d : PyData} {c m c' m' : Nat} (h : NcD d c m) (h1 : c ≤ c') (h2 : m ≤ m') : NcD d c' m' := ⟨h.ni, Nat.le_trans h.ce h1, Nat.le_trans h.de h2⟩
theorem NcL.mono {d : List PyData} {c m c' m' : Nat} (h : NcL d c m) (h1 : c ≤ c') (h2 : m ≤ m') : NcL d c' m' := ⟨h.ni, Nat.le_trans h.ce h1, Nat.le_trans h.de h2⟩
theorem NcL.nil {c m : Nat} : NcL [] c m := ⟨rfl, Nat.zero_le _, Nat.zero_le _⟩
theorem NcL.cons {d : PyData} {ds : List PyData} {c1 c2 m : Nat} (h : NcD d c1 m) (t : NcL ds c2 m) : NcL (d :: ds) (c1 + c2) m := by
  have h1 := h.ce
  have h2 := t.ce
  have h3 := h.de
  have h4 := t.de
  refine ⟨?_, ?_, ?_⟩
  · show (nice d && niceAll ds) = true
    rw [h.ni, t.ni]; rfl
  · show cells d + cellsAll ds ≤ c1 + c2
    omega
  · show max d.depth (PyData.depthAll ds) ≤ m
    omega
theorem NcL.tup {ds : List PyData} {c m : Nat} (h : NcL ds c m) : NcD (.tuple ds) (c + 1) (m + 1) := ⟨h.ni, Nat.succ_le_succ h.ce, Nat.succ_le_succ h.de⟩
theorem NcL.lst {ds : List PyData} {c m : Nat} (h : NcL ds c m) : NcD (.list ds) (c + 1) (m + 1) := ⟨h.ni, Nat.succ_le_succ h.ce, Nat.succ_le_succ h.de⟩
theorem NcD.str {s : Str} {m : Nat} (h : nice (.str s) = true) : NcD (.str s) 1 m := ⟨h, Nat.le_refl _, Nat.zero_le _⟩
theorem NcD.int {i : Int} {m : Nat} (h : i.natAbs < 10 ^ 7) : NcD (.int i) 1 m := ⟨decide_eq_true h, Nat.le_refl _, Nat.zero_le _⟩
theorem NcD.shaped {d : PyData} {c m : Nat} (h : NcD d c m) (hm : m ≤ 64) : SeqAt.shaped d = true := by
  show (d.canLay0 && decide (d.depth ≤ 64)) = true
  have h1 := h.de
  rw [nice_lay d h.ni, decide_eq_true (by omega)]
  rfl
theorem NcD.eqv {d : PyData} {c m : Nat} (h : NcD d c m) : PyData.eqv d d = true := SeqAt.eqv_refl d (nice_lay d h.ni)
structure Shw (d : PyData) : Prop where
  sh : d.showable = true
  nd : d.hasDict = false
  de : d.depth ≤ 60
  ln : d.shown.length ≤ sizeLine
theorem NcD.shw {d : PyData} {c m : Nat} (h : NcD d c m) (hc : c ≤ 40000) (hm : m ≤ 60) : Shw d := by
  have h1 := nice_short d h.ni
  have h2 := nice_bulk d h.ni
  have h3 := h.de
  have h4 := h.ce
  refine ⟨h1.2, PyData.hasDict_of_canLay d (nice_lay d h.ni), by omega, PyData.shown_fits_bulk (by decide) (by decide) h1.1 ?_⟩
  rw [show (2 : Nat) ^ 20 = 1048576 from rfl]
  omega
/-! ### repr of data, and a law's call from outside all frames (there no guard is up) -/
section
variable {X : Cx}
def rRepr (K : PySem.W.Frag) : List V → Hp → VK → Prop := fun xs H Q => ∃ (a : Addr) (d : PyData), xs = [.ref a] ∧ Dp K H (.ref a) d ∧ d.showable = true ∧ d.hasDict = false ∧ d.depth ≤ 60 ∧ d.shown.length ≤ sizeLine ∧ Q (.str d.shown) H
theorem cRepr (K : PySem.W.Frag) (hg : X.A.guards = some []) (hu : X.A.units + 64 < cLine) (hK : X.K = K := by rfl) : CallR X (.builtin "repr") (rRepr K) := by
  subst hK
  rintro pins s σ H xs us Q I r ⟨a, d, rfl, hd, hs, hn, hp, hz, q⟩
  obtain ⟨u, rfl, ru⟩ := vals1 r
  cases ru
  obtain ⟨as, hr⟩ := Dp.reads I d _ _ hd rfl
  exact PySem.repr_of_reads' hr hs (fun z => by rw [hn] at z; cases z) hg (by omega) (fun _ _ e => e) (fun h' t tk kp => ⟨.str d.shown, H, I.kept kp, ⟨t, rfl⟩, q⟩) hz
end
/-- the law's def keeps sp where it is called with the script, from outside -/
def TopOk (P : Program) (w : World) (K : PySem.W.Frag) (mg : Str → Option Value) (base : Heap) (f : Addr) (sp : Sp) : Prop :=
  ∀ (s : Shared) (H : Hp) (a : Addr) (Q : VK), Env0 P w K mg base callerA [] s H → sp [.ref a] H Q E0 → codeAny (model P w) callerA (.call (.ref f) ⟨[.ref a], []⟩) (CR CX0 [] P w H s Q E0) s
theorem top_ok {P : Program} {w : World} {K : PySem.W.Frag} {mg : Str → Option Value} {base : Heap} {x : Str} {st : Stmt} {f : Addr} {fd : FuncData} {N : List Str} {k : Nat} {sp : Sp} (F : Fun K x x st f fd) (S : FnScope N ["script"] (defScope st)) (hroom : Room (k + 1) callerA)
    (bind : ∀ (s : Shared) (v : Value), BindsTo s fd ⟨[v], []⟩ [("script", v)])
    (body : ∀ (cdv : Value) (s : Shared) (H : Hp) (a : Addr) (Q : VK), Room k (callerA.deeper (envOfC x (defScope st) s.heap.objs.size f cdv)) → sp [.ref a] H Q E0 →
      ∃ t, PSs (cxOf CX0 P w K mg base N x (defScope st) f cdv callerA [] s H E0).nox (defBody st) t ∧ t { nx := fun _ H' => Q .non H', rt := Q } (start N [.ref a]) H) : TopOk P w K mg base f sp := by
  obtain ⟨c1, c2, c3, c4, c5, c6, cd, c8, c9, rfl, look, code⟩ := F.ex
  intro s H a Q env want
  have inS : K.In s.heap := PySem.W.Frag.In.keeps env.mod.kin (fun b o z => (env.bs b o z).1)
  have room := hroom.deeper (envOfC x (defScope st) s.heap.objs.size f cd)
  obtain ⟨t, good, read⟩ := body cd s H a Q room want
  refine codeAny_call_function (by decide) (inS f _ look) rfl S.co S.gen rfl (PySem.W.codeRec_of inS code) (bind s _ _ _ _ _ ?_)
  have names : ∀ y ∈ [(("script" : Str), Value.ref a)], (defScope st).names.lookup y.1 = some .local ∨ ((defScope st).names.lookup y.1 = some .cell ∧ ((cellsFrom (s.heap.objs.size + 1) (defScope st).names []).lookup y.1).isSome = true) := by
    intro y hy
    rw [List.mem_singleton.mp hy]
    exact (S.par "script" List.mem_cons_self).imp id fun z => ⟨z, PySem.W.cellsFrom_some _ _ _ (.inl z)⟩
  refine wpAny_newFunctionEnv_cells S.kind names ?_
  rintro _ rfl s1 made
  have few : s.heap.NoLimit := Heap.NoLimit.keeps env.mod.nolimit (fun b o z => (env.bs b o z).1)
  refine ⟨Heap.NoLimit.keeps few made.toInCall.keep, codeAny_func ?_⟩
  have inv := inv_start (CX := CX0) (vs := [V.ref a]) (us := [Value.ref a]) (E := E0) S hroom.hd env rfl (.cons rfl .nil) made
  refine wpAny_mono (good.nox.run [] s1 _ H _ inv read) ?_ (fun _ _ z => z)
  intro fl s2 out
  cases fl with
  | brk => exact False.elim out.choose_spec.choose_spec.2
  | cont => exact False.elim out.choose_spec.choose_spec.2
  | next =>
    obtain ⟨σ2, H2, inv2, q2⟩ := out
    exact ⟨.non, H2, inv2.os, inv2.bare, inv2.base, inv2.hok, rfl, q2⟩
  | ret u =>
    obtain ⟨v, σ2, H2, inv2, rel, q2⟩ := out
    exact ⟨v, H2, inv2.os, inv2.bare, inv2.base, inv2.hok, rel, q2⟩
/-- what the object of the script is taken for: the locked list, unless it is an object of the module -/
def hpOf (K : PySem.W.Frag) (a : Addr) (o : Obj) (ns : List Int) : Hp := fun b => if b = a ∧ K.lookup a = none then some (.frz o (.lst (ns.map V.int))) else none
theorem hp_none {K : PySem.W.Frag} {a b : Addr} {o : Obj} {ns : List Int} (h : b ≠ a) : hpOf K a o ns b = none := if_neg fun z => h z.1
theorem hp_ne {K : PySem.W.Frag} {a b : Addr} {o : Obj} {ns : List Int} {u : HO} (h : hpOf K a o ns b = some u) : b = a ∧ K.lookup a = none ∧ u = .frz o (.lst (ns.map V.int)) := by
  unfold hpOf at h
  split at h
  · rename_i c
    exact ⟨c.1, c.2, (Option.some.inj h).symm⟩
  · cases h
theorem ints_vals : ∀ {vs : List Value} {ns : List Int}, IntsAre vs ns → Vals (ns.map V.int) vs := fun h => vals_ints h
theorem top_call {P : Program} {w : World} {K : PySem.W.Frag} {mg mb : Str → Option Value} {fa a : Addr} {sp : Sp} {s1 : Shared} {vs : List Value} {ns : List Int} (KX : K.In s1.heap) (hns : s1.heap.Ns mainGlobals mg) (hb : s1.heap.Ns builtinsNs mb) (hbb : ∀ x : Str, x ≠ "__name__" → mb x = bootBuiltins x)
    (hlim : s1.heap.NoLimit) (hg : s1.gens = #[]) (ha : s1.heap.get? a = some { cls := .type "list", data := .seq vs.toArray }) (hi : IntsAre vs ns) (hl : ns.length ≤ sizeLine) (F : ∀ base : Heap, K.In base → base.Ns mainGlobals mg → TopOk P w K mg base fa sp)
    (hsp : ∀ H : Hp, SqL K H a (ns.map V.int) → sp [.ref a] H (fun v _ => v = .bl true) E0) :
    codeAny (model P w) callerA (.call (.ref fa) ⟨[.ref a], []⟩) (fun r s' => r = .ok (.ret (.bool true)) ∧ OldK s1.heap s'.heap ∧ s'.os = s1.os ∧ AllBare s'.gens) s1 := by
  have rel := vals_ints hi
  have size := hi.length
  generalize hob : ({ cls := .type "list", data := .seq vs.toArray } : Obj) = ob at ha
  generalize hH : hpOf K a ob ns = H
  have known : ∀ {b : Addr} {u : HO}, H b = some u → b = a ∧ K.lookup a = none ∧ u = .frz ob (.lst (ns.map V.int)) := fun z => hp_ne (hH ▸ z)
  have free : ∀ {b : Addr}, b ≠ a → H b = none := fun z => hH ▸ hp_none z
  -- what is a dict, or the module's own, is not hidden
  have dictFree : ∀ {b : Addr} {o : Obj} {es : Array DictEntry} {ep : Nat}, s1.heap.get? b = some o → o.data = .dict es ep → H b = none := by
    intro b o es ep e d
    refine free fun z => ?_
    rw [z, ha] at e
    cases e
    rw [← hob] at d
    cases d
  have kFree : ∀ {b : Addr} {o : Obj}, K.lookup b = some o → H b = none := by
    intro b o e
    cases h : H b with
    | none => rfl
    | some u =>
      obtain ⟨z1, z2, _⟩ := known h
      rw [z1, z2] at e
      cases e
  have seen : ∀ {b : Addr} {o : Obj}, s1.heap.get? b = some o → H b = none → (hidT s1.heap H).get? b = some o := fun e n => hidT_get e n
  have kIn : K.In (hidT s1.heap H) := fun b o e => seen (KX b o e) (kFree e)
  have spaces : ∀ {b : Addr} {m : Str → Option Value}, s1.heap.Ns b m → (hidT s1.heap H).Ns b m := by
    rintro b m ⟨o, es, ep, e, d, r⟩
    exact ⟨o, es, ep, seen e (dictFree e d), d, r⟩
  have limit : (hidT s1.heap H).NoLimit := by
    obtain ⟨mc, l1, l2⟩ := hlim
    exact ⟨mc, spaces l1, l2⟩
  have ok : HOk P w H s1.heap := by
    intro b u z
    obtain ⟨rfl, _, rfl⟩ := known z
    subst hob
    exact ⟨ha, by rw [List.length_map]; exact hl, vs, _, rel, ha⟩
  have script : SqL K H a (ns.map V.int) := by
    cases h : K.lookup a with
    | none => exact .inl (.inr ⟨ob, by rw [← hH]; exact if_pos ⟨rfl, h⟩⟩)
    | some o =>
      have e := KX a o h
      rw [ha] at e
      cases e
      subst hob
      exact .inr ⟨_, vs.toArray, _, h, rfl, rfl, rfl, by rw [List.size_toArray, size]; exact hl, by rw [List.toList_toArray]; exact rel⟩
  have env : Env0 P w K mg (hidT s1.heap H) callerA [] s1 H := {
    frames := rfl
    mod := ⟨kIn, spaces hns, ⟨mb, spaces hb, hbb⟩, limit⟩
    bs := fun _ _ z => of_hidT z
    bsz := Nat.le_of_eq (hidT_size _ _)
    funs := trivial
    frf := fun _ z => nomatch z
    hok := ok
    bare := .of_eq hg }
  refine codeAny_mono (F _ kIn (spaces hns) s1 H a _ env (hsp H script)) ?_
  intro r s2 out
  match r, out with
  | .error _, out => exact False.elim out
  | .ok .next, out => exact False.elim out
  | .ok .brk, out => exact False.elim out
  | .ok .cont, out => exact False.elim out
  | .ok (.ret u), ⟨v, H2, os, bare, un, ok2, ru, qv⟩ =>
    have qv' : v = .bl true := qv
    subst qv'
    have ru' : u = Value.bool true := ru
    subst ru'
    refine ⟨rfl, OldK.of_keep ?_, os, bare⟩
    intro b o e
    cases h : H b with
    | none => exact un.keep b o e h (fun z => nomatch z) (fun z => nomatch z)
    | some x =>
      obtain ⟨rfl, _, rfl⟩ := known h
      have later := (ok2 b _ (un.frzs b ob _ h)).1
      rw [ha] at e
      cases e
      exact later
theorem walk_top {l : PySem.W.OpenLaw} {n : Nat} {q : Program} {loose : List Str} {XP : (Str → Option Value) → Heap → Prop} {YP : World → Heap → Prop} {d : DefRec} {K : Params → PySem.W.Frag} {sp : World → Sp} (hn : l.most = some n) (hn2 : n ≤ sizeLine) (hdf : d.params.defaults = [])
    (hY : ∀ (w : World) (h : Heap), YP w h → (K w.params).In h)
    (F : ∀ (w : World) (mg : Str → Option Value) (fa : Addr) (h : Heap), (K w.params).In h → h.Ns mainGlobals mg → mg d.name = some (.ref fa) → ∀ base : Heap, (K w.params).In base → base.Ns mainGlobals mg → TopOk l.prog w (K w.params) mg base fa (sp w))
    (hsp : ∀ (w : World) (H : Hp) (a : Addr) (ns : List Int), ns.length ≤ n → SqL (K w.params) H a (ns.map V.int) → sp w [.ref a] H (fun v _ => v = .bl true) E0) :
    PySem.W.WalkO q loose XP YP l.row.toRowW d [] (fun f vs => PySem.call f vs) := by
  refine Att.attach_call hn hdf ?_
  intro w s0 s1 mg mb fa o pm cd doc a vs ns G Y ho hd hcd hmg hobj hints hlen hg
  exact top_call (hY w _ Y) G.T.g G.T.b G.T.builtins G.T.nolimit hg hobj hints (Nat.le_trans hlen hn2) (F w mg fa _ (hY w _ Y) G.T.g hmg) fun H hS => hsp w H a ns hlen hS
theorem orM {A B : TT} {t u r : TS} {D : Ends} {σ : L2.St} {H : Hp} (h : Ans A σ H false) (hb : tSeq (tIfS B t u) r D σ H) : tSeq (tIfS (tOr A B) t u) r D σ H := h _ (iteF hb)
theorem neM (s : Str) : (!decide (V.str s = V.str s)) = false := by
  rw [decide_eq_true rfl]
  rfl
theorem nbM (b : Bool) : (!decide (V.bl b = V.bl b)) = false := by
  rw [decide_eq_true rfl]
  rfl
theorem nvM {d : PyData} (e : PyData.eqv d d = true) : (!PyData.eqv d d) = false := by
  rw [e]
  rfl
theorem ansF {t : TT} {σ : L2.St} {H : Hp} {Q : Bool → Hp → Prop} (h : Ans t σ H false) (q : Q false H) : t σ H Q := h _ q
theorem orA {A B : TT} {σ : L2.St} {H : Hp} {Q : Bool → Hp → Prop} (h : Ans A σ H false) (q : B σ H Q) : tOr A B σ H Q := h _ (iteF q)
/-! ### situations -/
/-- xs[i] read before it is stored anew -/
def rGetL (K : PySem.W.Frag) : R2 := fun x y H Q => ∃ p xs i v, x = .ref p ∧ y = .int i ∧ 0 ≤ i ∧ SqL K H p xs ∧ atI xs i = some v ∧ Q v H
theorem get_list {X : Cx} : PGet X (rGetL X.K) := by
  intro pins s σ H x y v u Q I rx ry h
  obtain ⟨p, xs, i, z, rfl, rfl, h0, hq, he, q⟩ := h
  cases rx
  obtain ⟨t, rfl⟩ := ry
  obtain ⟨its, r, pl, hz⟩ := I.list hq
  obtain ⟨j, h1, h2, h3, h4, h5⟩ := atI_get he
  obtain ⟨w, ew, rw'⟩ := r.get h2
  have hl := r.length
  have hn := line63
  have hj : i.toNat = j := by
    rw [seqIndex_of h0 h5] at h1
    exact Option.some.inj h1
  exact wpAny_getItem_list pl.isList h0 (by omega) (by rw [hj]; simpa using ew) ⟨z, H, I, rw', q⟩
theorem getL {X : Cx} (K : PySem.W.Frag) (h : X.K = K := by rfl) : PGet X (rGetL K) := h ▸ get_list
/-- a situation: a pair of a number and a list of numbers -/
def Sit (K : PySem.W.Frag) (H : Hp) (v : V) (s : Int) (ns : List Int) : Prop := ∃ a ca, v = .ref a ∧ SqT K H a [.int s, .ref ca] ∧ SqL K H ca (ns.map V.int)
theorem Same.sit {K : PySem.W.Frag} {H H' : Hp} (e : Same H H') {v : V} {s : Int} {ns : List Int} (h : Sit K H v s ns) : Sit K H' v s ns := by
  obtain ⟨a, ca, e1, h1, h2⟩ := h
  exact ⟨a, ca, e1, Same.seqT e h1, e.seq h2⟩
def sitD (s : Int) (ns : List Int) : PyData := .tuple [.int s, .list (ns.map PyData.int)]
theorem sit_dp {K : PySem.W.Frag} {H : Hp} {v : V} {s : Int} {ns : List Int} (h : Sit K H v s ns) : Dp K H v (sitD s ns) := by
  obtain ⟨a, ca, rfl, h1, h2⟩ := h
  exact .tup h1 (.cons (.int _) (.cons (.lst h2 (dpa_ints ns)) .nil))
theorem dpa_intsE {K : PySem.W.Frag} {H : Hp} : ∀ {ns : List Int} {vs : List V}, DpAll K H vs (ns.map PyData.int) → vs = ns.map V.int
  | [], _, h => dpa_nil h
  | n :: ns, vs, h => by
    obtain ⟨v, r, rfl, h1, h2⟩ := dpa_cons h
    rw [dp_int h1, dpa_intsE h2]
    rfl
theorem dp_sit {K : PySem.W.Frag} {H : Hp} {v : V} {s : Int} {ns : List Int} (h : Dp K H v (sitD s ns)) : Sit K H v s ns := by
  obtain ⟨a, xs, rfl, h1, h2⟩ := dp_tup h
  obtain ⟨v1, r1, rfl, d1, h2⟩ := dpa_cons h2
  obtain ⟨v2, r2, rfl, d2, h2⟩ := dpa_cons h2
  obtain rfl := dpa_nil h2
  obtain ⟨ca, cxs, rfl, h3, h4⟩ := dp_lst d2
  rw [dp_int d1] at h1
  rw [dpa_intsE h4] at h3
  exact ⟨a, ca, rfl, h1, h3⟩
/-- at least as many everywhere -/
def geAll : List Int → List Int → Bool
  | m :: ms, n :: ns => decide (n ≤ m) && geAll ms ns
  | _, _ => true
theorem geAll_refl : ∀ ms : List Int, geAll ms ms = true
  | [] => rfl
  | m :: ms => by
    show (decide (m ≤ m) && geAll ms ms) = true
    rw [decide_eq_true (Int.le_refl m), geAll_refl ms]
    rfl
theorem geAll_take {ms ns : List Int} {m n : Int} : ∀ {i : Nat}, ms[i]? = some m → ns[i]? = some n → geAll (ms.take (i + 1)) (ns.take (i + 1)) = (geAll (ms.take i) (ns.take i) && decide (n ≤ m)) := by
  induction ms generalizing ns with
  | nil => intro i h; simp at h
  | cons a ms ih =>
    intro i h1 h2
    cases ns with
    | nil => simp at h2
    | cons b ns =>
      cases i with
      | zero =>
        cases h1
        cases h2
        show (decide (n ≤ m) && geAll (ms.take 0) (ns.take 0)) = (true && _)
        rw [List.take_zero, List.take_zero]
        show (decide (n ≤ m) && true) = _
        rw [Bool.and_true, Bool.true_and]
      | succ i =>
        show (decide (b ≤ a) && geAll (ms.take (i + 1)) (ns.take (i + 1))) = ((decide (b ≤ a) && geAll (ms.take i) (ns.take i)) && decide (n ≤ m))
        rw [ih h1 h2, Bool.and_assoc]
theorem geAll_false {ms ns : List Int} : ∀ {i : Nat}, geAll (ms.take i) (ns.take i) = false → geAll ms ns = false := by
  induction ms generalizing ns with
  | nil => intro i h; rw [List.take_nil] at h; cases h
  | cons a ms ih =>
    intro i h
    cases ns with
    | nil => rw [List.take_nil] at h; cases i <;> cases h
    | cons b ns =>
      cases i with
      | zero => cases h
      | succ i =>
        have h' : (decide (b ≤ a) && geAll (ms.take i) (ns.take i)) = false := h
        show (decide (b ≤ a) && geAll ms ns) = false
        cases hb : decide (b ≤ a) with
        | false => rfl
        | true =>
          rw [hb, Bool.true_and] at h'
          rw [ih h']
          rfl
/-- the first covers the second -/
def covB (s : Int) (ms : List Int) (t : Int) (ns : List Int) : Bool := decide (s = t) && geAll ms ns
theorem covB_refl (s : Int) (ms : List Int) : covB s ms s ms = true := by
  unfold covB
  rw [decide_eq_true (show s = s from rfl), geAll_refl]
  rfl
theorem ixN_nat {n j : Nat} (hj : j < n) : ixN n (j : Int) = some j := by
  unfold ixN
  rw [if_pos (by omega), if_pos (by omega)]
  simp
theorem gd {ds : List Int} {i : Nat} (h : i < ds.length) : ds[i]? = some (ds.getD i 0) := by
  rw [List.getD_eq_getElem?_getD, List.getElem?_eq_getElem h]
  rfl
theorem gd_mem {ds : List Int} {i : Nat} (h : i < ds.length) : ds.getD i 0 ∈ ds := List.mem_of_getElem? (gd h)
theorem at_gd {ds : List Int} {i : Int} {j : Nat} (e : i = (j : Int)) (h : j < ds.length) : atI (ds.map V.int) i = some (.int (ds.getD j 0)) := by
  rw [e]
  exact atI_nat (get_map (gd h))
theorem mod_in (z : Int) {m : Int} (h : 0 < m) : 0 ≤ z % m ∧ z % m < m := ⟨Int.emod_nonneg _ (by omega), Int.emod_lt_of_pos _ h⟩
theorem cut_ints {ds : List Int} {a n : Nat} {i j : Int} (h : a + n ≤ ds.length) (hi : i = (a : Int)) (hj : j = ((a + n : Nat) : Int)) : cutV (ds.map V.int) (some i) (some j) = ((ds.drop a).take n).map V.int := by
  subst hi
  subst hj
  unfold cutV
  rw [HT.sIx_nat, HT.sIx_nat, List.length_map, Nat.min_eq_left (show a ≤ ds.length by omega), Nat.min_eq_left h, List.map_take, List.map_drop, Nat.add_sub_cancel_left]
theorem rep_one (n : Nat) (x : V) : (List.replicate n [x]).flatten = List.replicate n x := by
  induction n with
  | zero => rfl
  | succ n ih =>
    show x :: (List.replicate n [x]).flatten = x :: List.replicate n x
    rw [ih]
theorem rep_map (n : Nat) (x : Int) : List.replicate n (V.int x) = (List.replicate n x).map V.int := by rw [List.map_replicate]
theorem int_eqE (a b : Int) : decide (V.int a = V.int b) = decide (a = b) := by
  by_cases h : a = b
  · rw [decide_eq_true h, h, decide_eq_true rfl]
  · rw [decide_eq_false h, decide_eq_false fun z => h (by cases z; rfl)]
/-- the heap without B -/
def Ho (B : Addr) (H : Hp) : Hp := fun x => if x = B then none else H x
theorem ho_out {B : Addr} {H : Hp} : Same (Ho B H) H := fun b x e => by
  unfold Ho at e
  split at e
  · cases e
  · exact e
theorem ho_same {B : Addr} {H H' : Hp} (s : Same H H') : Same (Ho B H) (Ho B H') := fun b x e => by
  unfold Ho at e ⊢
  split at e
  · cases e
  · rename_i h; rw [if_neg h]; exact s _ _ e
theorem ho_mut {B : Addr} {H : Hp} {u : HO} : Same (Ho B H) (Ho B (upd H B u)) := fun b x e => by
  unfold Ho at e ⊢
  split at e
  · cases e
  · rename_i h; rw [if_neg h, upd_ne h]; exact e
theorem ho_first {B : Addr} {H : Hp} {u : HO} (nB : H B = none) : Same H (Ho B (upd H B u)) := fun b x e => by
  have h : b ≠ B := ne_of_none e nB
  show (if b = B then none else upd H B u b) = _
  rw [if_neg h, upd_ne h]
  exact e
theorem dp_newT {K : PySem.W.Frag} {H : Hp} {p : Addr} {xs : List V} {ds : List PyData} (np : H p = none) (h : DpAll K H xs ds) : Dp K (upd H p (.tup xs)) (.ref p) (.tuple ds) := .tup (st upd_same) (dpAll_mono (same_new np) h)
theorem dp_newL {K : PySem.W.Frag} {H : Hp} {p : Addr} {xs : List V} {ds : List PyData} (np : H p = none) (h : DpAll K H xs ds) : Dp K (upd H p (.lst xs)) (.ref p) (.list ds) := .lst (sq upd_same) (dpAll_mono (same_new np) h)
theorem dpo_newT {K : PySem.W.Frag} {H : Hp} {B p : Addr} {o : HO} {xs : List V} {ds : List PyData} (eB : H B = some o) (np : H p = none) (h : DpAll K (Ho B H) xs ds) : Dp K (Ho B (upd H p (.tup xs))) (.ref p) (.tuple ds) := by
  have hne : p ≠ B := fun e => by rw [e, eB] at np; cases np
  refine .tup (st ?_) (dpAll_mono (ho_same (same_new np)) h)
  show (if p = B then none else upd H p (.tup xs) p) = _
  rw [if_neg hne]
  exact upd_same
theorem dpo_newL {K : PySem.W.Frag} {H : Hp} {B p : Addr} {o : HO} {xs : List V} {ds : List PyData} (eB : H B = some o) (np : H p = none) (h : DpAll K (Ho B H) xs ds) : Dp K (Ho B (upd H p (.lst xs))) (.ref p) (.list ds) := by
  have hne : p ≠ B := fun e => by rw [e, eB] at np; cases np
  refine .lst (sq ?_) (dpAll_mono (ho_same (same_new np)) h)
  show (if p = B then none else upd H p (.lst xs) p) = _
  rw [if_neg hne]
  exact upd_same
/-! ### machines -/
abbrev nV (n : Nat) : V := .int (n : Int)
abbrev nD (n : Nat) : PyData := .int (n : Int)
structure MvT where
  st : Nat
  pl : Nat
  ns : Nat
  np : Nat
  sd : Option Nat
  sh : List (Nat × Nat)
def sdV : Option Nat → V
  | none => .non
  | some d => nV d
def sdD : Option Nat → PyData
  | none => .none
  | some d => nD d
def shD (p : Nat × Nat) : PyData := .tuple [nD p.1, nD p.2]
def MvT.data (m : MvT) : PyData := .tuple [nD m.st, nD m.pl, nD m.ns, nD m.np, sdD m.sd, .list (m.sh.map shD)]
structure MT where
  states : Nat
  places : Nat
  sst : Nat
  cnts : List Int
  crew : Nat
  moves : List MvT
def MT.data (M : MT) : PyData := .tuple [nD M.states, nD M.places, sitD M.sst M.cnts, nD M.crew, .list (M.moves.map MvT.data)]
structure ShOk (sh : List (Nat × Nat)) (P : Nat) : Prop where
  asc : (sh.map (·.1)).Pairwise (· < ·)
  fst : ∀ p ∈ sh, p.1 < P
  snd : ∀ p ∈ sh, p.2 < P
  sep : ∀ p ∈ sh, ∀ q ∈ sh, p.2 ≠ q.1
structure MvT.Fit (m : MvT) (S P : Nat) : Prop where
  st : m.st < S
  pl : m.pl < P
  ns : m.ns < S
  np : m.np < P
  sd : ∀ d, m.sd = some d → d < P
  sh : ShOk m.sh P
structure MT.Ok (M : MT) : Prop where
  s1 : 1 ≤ M.states
  s2 : M.states ≤ 4
  p1 : 1 ≤ M.places
  p2 : M.places ≤ 6
  ss : M.sst < M.states
  cl : M.cnts.length = M.places
  cb : ∀ c ∈ M.cnts, 0 ≤ c ∧ c < 3
  cr : M.crew < M.places
  ml : M.moves.length ≤ 12
  fit : ∀ m ∈ M.moves, m.Fit M.states M.places
  nd : M.moves.Nodup
def shiftAll (sh : List (Nat × Nat)) (cs : List Int) : List Int := sh.foldl (fun cs p => (cs.set p.2 (cs.getD p.2 0 + cs.getD p.1 0)).set p.1 0) cs
def bump (cs : List Int) (k : Nat) (z : Int) : List Int := cs.set k (cs.getD k 0 + z)
def MvT.mid (m : MvT) (cs : List Int) : List Int := shiftAll m.sh (bump cs m.pl (-1))
def MvT.aft (m : MvT) (cs : List Int) : List Int := match m.sd with
  | none => bump (m.mid cs) m.np 1
  | some d => bump (bump (m.mid cs) m.np 1) d 1
def MvT.can (m : MvT) (s : Int) (cs : List Int) : Bool := decide ((m.st : Int) = s) && decide (0 < cs.getD m.pl 0)
def canAt (ms : List MvT) (s : Int) (cs : List Int) (k : Nat) : Bool := match ms[k]? with
  | some m => m.can s cs
  | none => false
def canL (ms : List MvT) (s : Int) (cs : List Int) : List Nat := (List.range ms.length).filter (canAt ms s cs)
theorem shiftAll_len : ∀ (sh : List (Nat × Nat)) (cs : List Int), (shiftAll sh cs).length = cs.length
  | [], _ => rfl
  | p :: r, cs => by
    show (shiftAll r _).length = _
    rw [shiftAll_len r, List.length_set, List.length_set]
theorem bump_len (cs : List Int) (k : Nat) (z : Int) : (bump cs k z).length = cs.length := List.length_set
theorem mid_len (m : MvT) (cs : List Int) : (m.mid cs).length = cs.length := by
  unfold MvT.mid
  rw [shiftAll_len, bump_len]
theorem aft_len (m : MvT) (cs : List Int) : (m.aft cs).length = cs.length := by
  unfold MvT.aft
  split
  · rw [bump_len, mid_len]
  · rw [bump_len, bump_len, mid_len]
theorem shiftAll_snoc (sh : List (Nat × Nat)) (p : Nat × Nat) (cs : List Int) : shiftAll (sh ++ [p]) cs = ((shiftAll sh cs).set p.2 ((shiftAll sh cs).getD p.2 0 + (shiftAll sh cs).getD p.1 0)).set p.1 0 := by
  unfold shiftAll
  rw [List.foldl_append]
  rfl
theorem filt_yes {f : Nat → Bool} {i : Nat} (h : f i = true) : (List.range (i + 1)).filter f = (List.range i).filter f ++ [i] := by
  rw [List.range_succ, List.filter_append, List.filter_cons, if_pos h]
  rfl
theorem filt_no {f : Nat → Bool} {i : Nat} (h : f i = false) : (List.range (i + 1)).filter f = (List.range i).filter f := by
  rw [List.range_succ, List.filter_append, List.filter_cons, if_neg (by rw [h]; decide)]
  show _ ++ [] = _
  rw [List.append_nil]
theorem filt_len (n : Nat) (f : Nat → Bool) : ((List.range n).filter f).length ≤ n := by
  have h := List.length_filter_le f (List.range n)
  rw [List.length_range] at h
  exact h
theorem mem_canL {ms : List MvT} {s : Int} {cs : List Int} {k : Nat} : k ∈ canL ms s cs ↔ ∃ m, ms[k]? = some m ∧ m.can s cs = true := by
  unfold canL
  rw [List.mem_filter, List.mem_range]
  unfold canAt
  constructor
  · rintro ⟨h1, h2⟩
    rw [List.getElem?_eq_getElem h1] at h2
    exact ⟨_, List.getElem?_eq_getElem h1, h2⟩
  · rintro ⟨m, h1, h2⟩
    rw [h1]
    exact ⟨(List.getElem?_eq_some_iff.mp h1).1, h2⟩
section
variable {K : PySem.W.Frag} {H : Hp}
theorem dp_sd {v : V} {o : Option Nat} (h : Dp K H v (sdD o)) : v = sdV o := by
  cases o with
  | none => cases h; rfl
  | some d => exact dp_int h
theorem sd_dp (o : Option Nat) : Dp K H (sdV o) (sdD o) := by
  cases o with
  | none => exact .non
  | some d => exact .int _
theorem dp_sh {v : V} {p : Nat × Nat} (h : Dp K H v (shD p)) : ∃ a, v = .ref a ∧ SqT K H a [nV p.1, nV p.2] := by
  obtain ⟨a, xs, rfl, hs, h⟩ := dp_tup h
  obtain ⟨v1, r1, rfl, d1, h⟩ := dpa_cons h
  obtain ⟨v2, r2, rfl, d2, h⟩ := dpa_cons h
  rw [dp_int d1, dp_int d2, dpa_nil h] at hs
  exact ⟨a, rfl, hs⟩
theorem dp_mv {v : V} {m : MvT} (h : Dp K H v m.data) : ∃ a sa xs, v = .ref a ∧ SqT K H a [nV m.st, nV m.pl, nV m.ns, nV m.np, sdV m.sd, .ref sa] ∧ SqL K H sa xs ∧ DpAll K H xs (m.sh.map shD) := by
  obtain ⟨a, xs, rfl, hs, h⟩ := dp_tup h
  obtain ⟨v1, r1, rfl, d1, h⟩ := dpa_cons h
  obtain ⟨v2, r2, rfl, d2, h⟩ := dpa_cons h
  obtain ⟨v3, r3, rfl, d3, h⟩ := dpa_cons h
  obtain ⟨v4, r4, rfl, d4, h⟩ := dpa_cons h
  obtain ⟨v5, r5, rfl, d5, h⟩ := dpa_cons h
  obtain ⟨v6, r6, rfl, d6, h⟩ := dpa_cons h
  obtain rfl := dpa_nil h
  obtain ⟨sa, ys, rfl, h1, h2⟩ := dp_lst d6
  rw [dp_int d1, dp_int d2, dp_int d3, dp_int d4, dp_sd d5] at hs
  exact ⟨a, sa, ys, rfl, hs, h1, h2⟩
theorem dp_mt {v : V} {M : MT} (h : Dp K H v M.data) : ∃ a sv ma xs, v = .ref a ∧ SqT K H a [nV M.states, nV M.places, sv, nV M.crew, .ref ma] ∧ Sit K H sv M.sst M.cnts ∧ SqL K H ma xs ∧ DpAll K H xs (M.moves.map MvT.data) := by
  obtain ⟨a, xs, rfl, hs, h⟩ := dp_tup h
  obtain ⟨v1, r1, rfl, d1, h⟩ := dpa_cons h
  obtain ⟨v2, r2, rfl, d2, h⟩ := dpa_cons h
  obtain ⟨v3, r3, rfl, d3, h⟩ := dpa_cons h
  obtain ⟨v4, r4, rfl, d4, h⟩ := dpa_cons h
  obtain ⟨v5, r5, rfl, d5, h⟩ := dpa_cons h
  obtain rfl := dpa_nil h
  obtain ⟨ma, ys, rfl, h1, h2⟩ := dp_lst d5
  rw [dp_int d1, dp_int d2, dp_int d4] at hs
  exact ⟨a, v3, ma, ys, rfl, hs, dp_sit d3, h1, h2⟩
theorem dpa_map_at {α : Type} {f : α → PyData} {xs : List V} {as : List α} (h : DpAll K H xs (as.map f)) {i : Nat} {x : V} (hx : xs[i]? = some x) : ∃ a, as[i]? = some a ∧ Dp K H x (f a) := by
  obtain ⟨d, hd, dx⟩ := dpa_at h hx
  obtain ⟨a, ha, rfl⟩ : ∃ a, as[i]? = some a ∧ d = f a := by
    rw [List.getElem?_map] at hd
    cases e : as[i]? with
    | none => rw [e] at hd; cases hd
    | some a => rw [e] at hd; exact ⟨a, rfl, (Option.some.inj hd).symm⟩
  exact ⟨a, ha, dx⟩
theorem dpa_map_at' {α : Type} {f : α → PyData} {xs : List V} {as : List α} (h : DpAll K H xs (as.map f)) {i : Nat} {a : α} (ha : as[i]? = some a) : ∃ x, xs[i]? = some x ∧ Dp K H x (f a) := by
  obtain ⟨v, hv, dv⟩ := dpa_at' h (i := i) (d := f a) (by rw [List.getElem?_map, ha]; rfl)
  exact ⟨v, hv, dv⟩
theorem dpa_map_len {α : Type} {f : α → PyData} {xs : List V} {as : List α} (h : DpAll K H xs (as.map f)) : xs.length = as.length := by
  have := dpa_len h
  rw [List.length_map] at this
  exact this
end
theorem at_n {xs : List V} {i : Int} {j : Nat} {v : V} (e : i = (j : Int)) (h : xs[j]? = some v) : atI xs i = some v := by
  rw [e]
  exact atI_nat h
theorem hu65 {A : Around} {k : Nat} (hr : Room k A) : A.units + 65 < cLine := by
  have := hr.un
  omega
theorem opNotInD {X : Cx} (K : PySem.W.Frag) (hu : X.A.units + 65 < cLine) (h : X.K = K := by rfl) : OpR X (compareOp .NotIn) (rNotInD K) := h ▸ op_notInD hu
theorem opInD {X : Cx} (K : PySem.W.Frag) (hu : X.A.units + 65 < cLine) (h : X.K = K := by rfl) : OpR X (compareOp .In) (rInD K) := h ▸ op_inD hu
section
variable {P : Program} {w : World} {K : PySem.W.Frag} {mg : Str → Option Value} {base : Heap}
theorem set_int (cs : List Int) (k : Nat) (z : Int) : (cs.map V.int).set k (.int z) = (cs.set k z).map V.int := List.map_set.symm
/-- the situation after a move -/
def NewSit (H H' : Hp) (p : Addr) (s : Int) (cs : List Int) : Prop := ∃ ca, H p = none ∧ H ca = none ∧ ca ≠ p ∧ H' p = some (.tup [.int s, .ref ca]) ∧ H' ca = some (.lst (cs.map V.int))
theorem NewSit.sit {H H' : Hp} {p : Addr} {s : Int} {cs : List Int} (h : NewSit H H' p s cs) : Sit K H' (.ref p) s cs := by
  obtain ⟨ca, _, _, _, h1, h2⟩ := h
  exact ⟨p, ca, rfl, st h1, sq h2⟩
def spIsPos (K : PySem.W.Frag) : Sp := fun vs H Q _ => ∃ (v x : V) (M : MT) (i : Nat) (m : MvT) (s : Int) (cs : List Int), vs = [v, x, nV i] ∧ Dp K H v M.data ∧ Sit K H x s cs ∧ M.moves[i]? = some m ∧ m.pl < cs.length ∧ Q (.bl (m.can s cs)) H
def spStart (K : PySem.W.Frag) : Sp := fun vs H Q _ => ∃ (v : V) (M : MT) (n : Int), vs = [v, .int n] ∧ Dp K H v M.data ∧ 0 ≤ n ∧ M.crew < M.cnts.length ∧ ∀ H' p, Same H H' → NewSit H H' p M.sst (bump M.cnts M.crew n) → Q (.ref p) H'
abbrev s_start_with : Stmt := topS 5
theorem sc_start_with : FnScope ["machine", "crew", "state", "counts", "threads"] ["machine", "crew"] (defScope s_start_with) := ⟨rfl, rfl, rfl, by decide +kernel, rfl, by decide +kernel, by decide +kernel⟩
-- start_with slots: machine=0 crew=1 state=2 counts=3 threads=4 globals: OutOfRange list
theorem fd_start_with {f : Addr} {fd : FuncData} (F : Fun K "start_with" "start_with" s_start_with f fd) (m : mg "start_with" = some (.ref f)) (B : Bt mg) : Fd P w K mg base "start_with" ["machine", "crew"] 1 (spStart K) := by
  refine ⟨f, fd, F.ok sc_start_with (fun vs H Q E h => ?_) (fun cdv A outer s H vs Q E hr h => ?_), m, F.kp, F.binds (ps := ["machine", "crew"]) fun _ _ _ _ _ _ us hl => match us, hl with | [_, _], _ => rfl⟩
  · obtain ⟨v, M, n, rfl, _⟩ := h
    rfl
  obtain ⟨v, M, n, rfl, hd, hn, hc, q⟩ := h
  obtain ⟨a, sv, ma, xs, rfl, ha, ⟨b, ca, rfl, hb, hca⟩, _, _⟩ := dp_mt hd
  refine ⟨_, (pss_cons (ps_if (pt_cmpR op_lt (pv 1) pe_int (nomark _))
 (pss_one ps_never)
 pss_nil)
 (pss_cons (ps_asg (pe_ix (ixT K) (pv 0) pe_int (fun _ _ => rfl)) (pg_tup rfl (pgs_cons (pg_name (i := 2) sc_start_with.nd rfl (Or.inl rfl)) (pgs_cons (pg_name (i := 3) sc_start_with.nd rfl (Or.inl rfl)) pgs_nil))))
 (pss_cons (ps_set (i := 4) sc_start_with.nd rfl (Or.inl rfl) (pe_callTy (cList K) (by rfl) B.list (by decide +kernel) (pa_cons (pv 3) pa_nil)))
 (pss_cons (ps_augS (pv 4) (pe_ix (ixT K) (pv 0) pe_int (fun _ _ => rfl)) (getL K) (pv 1) ip_add set_list)
 (pss_one (ps_ret (pe_tup (pa_cons (pv 2) (pa_cons (pv 4) pa_nil))))))))), ?_⟩
  refine ⟨_, rfl, _, _, rfl, rfl, _, rfl, ?_⟩
  rw [decide_eq_false (show ¬ n < 0 by omega)]
  refine iteF ?_
  refine ⟨_, rfl, _, _, _, _, rfl, rfl, ha, atI_nat (j := 2) rfl, b, _, rfl, hb, rfl, _, _, rfl, _, _, rfl, rfl, ?_⟩
  dsimp only [gName]
  refine ⟨_, rfl, ca, _, rfl, .inl hca, fun l nl => ?_⟩
  dsimp only [gName]
  refine ⟨_, rfl, _, rfl, _, _, _, _, rfl, rfl, Same.seqT (same_new nl) ha, atI_nat (j := 3) rfl, _, _, _, _, rfl, rfl, (show (0 : Int) ≤ (M.crew : Int) by omega), sq upd_same, at_gd rfl hc, _, rfl, _, _, rfl, rfl, _, _, _, _, rfl, rfl, upd_same, ixN_nat (by rw [List.length_map]; exact hc), ?_⟩
  rw [set_int]
  refine ⟨_, rfl, _, rfl, szc 2, fun p np => ?_⟩
  have pl : p ≠ l := fun e => by rw [e, upd_same] at np; cases np
  exact q _ p ((Same.mut (same_new nl) nl).trans (same_new np)) ⟨l, (Same.mut (same_new nl) nl).free np, nl, Ne.symm pl, upd_same, by rw [upd_ne (Ne.symm pl), upd_same]; rfl⟩
end
/-! ### wide situations: counts that may be None -/
def oV : Option Int → V
  | none => .non
  | some i => .int i
def oD : Option Int → PyData
  | none => .none
  | some i => .int i
def WSit (K : PySem.W.Frag) (H : Hp) (v : V) (s : Int) (ns : List (Option Int)) : Prop := ∃ a ca, v = .ref a ∧ SqT K H a [.int s, .ref ca] ∧ SqL K H ca (ns.map oV)
theorem Same.wsit {K : PySem.W.Frag} {H H' : Hp} (e : Same H H') {v : V} {s : Int} {ns : List (Option Int)} (h : WSit K H v s ns) : WSit K H' v s ns := by
  obtain ⟨a, ca, e1, h1, h2⟩ := h
  exact ⟨a, ca, e1, Same.seqT e h1, e.seq h2⟩
def wsitD (s : Int) (ns : List (Option Int)) : PyData := .tuple [.int s, .list (ns.map oD)]
theorem dp_oV {K : PySem.W.Frag} {H : Hp} : ∀ n : Option Int, Dp K H (oV n) (oD n)
  | none => .non
  | some i => .int i
theorem dpa_os {K : PySem.W.Frag} {H : Hp} : ∀ ns : List (Option Int), DpAll K H (ns.map oV) (ns.map oD)
  | [] => .nil
  | n :: r => .cons (dp_oV n) (dpa_os r)
theorem wsit_dp {K : PySem.W.Frag} {H : Hp} {v : V} {s : Int} {ns : List (Option Int)} (h : WSit K H v s ns) : Dp K H v (wsitD s ns) := by
  obtain ⟨a, ca, rfl, h1, h2⟩ := h
  exact .tup h1 (.cons (.int _) (.cons (.lst h2 (dpa_os ns)) .nil))
theorem dp_oE {K : PySem.W.Frag} {H : Hp} {v : V} : ∀ {n : Option Int}, Dp K H v (oD n) → v = oV n
  | none, h => by cases h; rfl
  | some i, h => dp_int h
theorem dpa_osE {K : PySem.W.Frag} {H : Hp} : ∀ {ns : List (Option Int)} {vs : List V}, DpAll K H vs (ns.map oD) → vs = ns.map oV
  | [], _, h => dpa_nil h
  | n :: ns, vs, h => by
    obtain ⟨v, r, rfl, h1, h2⟩ := dpa_cons h
    rw [dp_oE h1, dpa_osE h2]
    rfl
theorem dp_wsit {K : PySem.W.Frag} {H : Hp} {v : V} {s : Int} {ns : List (Option Int)} (h : Dp K H v (wsitD s ns)) : WSit K H v s ns := by
  obtain ⟨a, xs, rfl, h1, h2⟩ := dp_tup h
  obtain ⟨v1, r1, rfl, d1, h2⟩ := dpa_cons h2
  obtain ⟨v2, r2, rfl, d2, h2⟩ := dpa_cons h2
  obtain rfl := dpa_nil h2
  obtain ⟨ca, cxs, rfl, h3, h4⟩ := dp_lst d2
  rw [dp_int d1] at h1
  rw [dpa_osE h4] at h3
  exact ⟨a, ca, rfl, h1, h3⟩
/-- a count that is enough for another one -/
def geO : Option Int → Option Int → Bool
  | none, _ => true
  | some m, some n => decide (n ≤ m)
  | some _, none => false
def geW : List (Option Int) → List (Option Int) → Bool
  | m :: ms, n :: ns => geO m n && geW ms ns
  | _, _ => true
theorem geO_refl : ∀ m : Option Int, geO m m = true
  | none => rfl
  | some m => decide_eq_true (Int.le_refl m)
theorem geW_refl : ∀ ms : List (Option Int), geW ms ms = true
  | [] => rfl
  | m :: ms => by
    show (geO m m && geW ms ms) = true
    rw [geO_refl, geW_refl ms]
    rfl
theorem geW_take {ms ns : List (Option Int)} {m n : Option Int} : ∀ {i : Nat}, ms[i]? = some m → ns[i]? = some n → geW (ms.take (i + 1)) (ns.take (i + 1)) = (geW (ms.take i) (ns.take i) && geO m n) := by
  induction ms generalizing ns with
  | nil => intro i h; simp at h
  | cons a ms ih =>
    intro i h1 h2
    cases ns with
    | nil => simp at h2
    | cons b ns =>
      cases i with
      | zero =>
        cases h1
        cases h2
        show (geO m n && geW (ms.take 0) (ns.take 0)) = (true && _)
        rw [List.take_zero, List.take_zero]
        show (geO m n && true) = _
        rw [Bool.and_true, Bool.true_and]
      | succ i =>
        show (geO a b && geW (ms.take (i + 1)) (ns.take (i + 1))) = ((geO a b && geW (ms.take i) (ns.take i)) && geO m n)
        rw [ih h1 h2, Bool.and_assoc]
theorem geW_false {ms ns : List (Option Int)} : ∀ {i : Nat}, geW (ms.take i) (ns.take i) = false → geW ms ns = false := by
  induction ms generalizing ns with
  | nil => intro i h; rw [List.take_nil] at h; cases h
  | cons a ms ih =>
    intro i h
    cases ns with
    | nil => rw [List.take_nil] at h; cases i <;> cases h
    | cons b ns =>
      cases i with
      | zero => cases h
      | succ i =>
        have h' : (geO a b && geW (ms.take i) (ns.take i)) = false := h
        show (geO a b && geW ms ns) = false
        cases hb : geO a b with
        | false => rfl
        | true =>
          rw [hb, Bool.true_and] at h'
          rw [ih h']
          rfl
/-- the first wide situation covers the second one -/
def covW (s : Int) (ms : List (Option Int)) (t : Int) (ns : List (Option Int)) : Bool := decide (s = t) && geW ms ns
theorem covW_refl (s : Int) (ms : List (Option Int)) : covW s ms s ms = true := by
  unfold covW
  rw [decide_eq_true (show s = s from rfl), geW_refl]
  rfl
theorem gdO {ds : List (Option Int)} {i : Nat} (h : i < ds.length) : ds[i]? = some (ds.getD i none) := by
  rw [List.getD_eq_getElem?_getD, List.getElem?_eq_getElem h]
  rfl
theorem gdO_mem {ds : List (Option Int)} {i : Nat} (h : i < ds.length) : ds.getD i none ∈ ds := List.mem_of_getElem? (gdO h)
theorem at_gdO {ds : List (Option Int)} {i : Int} {j : Nat} (e : i = (j : Int)) (h : j < ds.length) : atI (ds.map oV) i = some (oV (ds.getD j none)) := by
  rw [e]
  exact atI_nat (get_map (gdO h))
theorem oV_non {m : Option Int} : decide (oV m = .non) = m.isNone := by
  cases m with
  | none => rfl
  | some i => exact decide_eq_false fun z => by cases z
/-- a comprehension over a range, any values -/
theorem lc_valR {K : PySem.W.Frag} {n : Nat} (hn : n ≤ 90000) {j : Nat} {te : TE} {vs : List Nat} {σ : L2.St} {H1 : Hp} {D : Addr} {Qd : Hp → Prop} (nD : H1 D = none) (f : Nat → V) (hw : ∀ x, wipe ((wipe σ vs).set j x) vs = wipe σ vs)
    (hs : ∀ i H (Q : VK), i < n → Same H1 H → (∀ H4, Same H H4 → Q (f i) H4) → te ((wipe σ vs).set j (some (.int ((0 : Int) + (i : Int))))) H Q)
    (hd : ∀ H, Same H1 H → H D = some (.lst ((List.range n).map f)) → Qd H) :
    ∃ W : Nat → Nat → Hp → Prop, (∃ m, W 0 m (upd H1 D (.lst []))) ∧ ∀ i m H, W i m H →
      ((Itr 0 n).stop i H ∧ Qd H) ∨ ((Itr 0 n).go i H ∧ ∃ Nx : Hp → Prop, (∀ H', Nx H' → ∃ m', m' < m ∧ W (i + 1) m' H') ∧ ∀ x H', (Itr 0 n).yld i H x H' → gName j x (wipe σ vs) H' fun σ2 H2 => wipe σ2 vs = wipe σ vs ∧ tYes σ2 H2 fun b H3 =>
        if b = true then te σ2 H3 fun y H4 => ∃ acc, H4 D = some (.lst acc) ∧ acc.length < sizeLine ∧ Nx (upd H4 D (.lst (acc ++ [y]))) else Nx H3) := by
  refine lc_range (fun i H' => Same H1 H' ∧ H' D = some (.lst ((List.range i).map f))) ⟨same_new nD, upd_same⟩ ?_ fun H h => hd H h.1 h.2
  rintro i H hi ⟨sm, eD⟩
  refine ⟨hw _, ?_⟩
  show te _ H _
  refine hs i H _ hi sm fun H' s => ?_
  refine ⟨_, s _ _ eD, ?_, Same.mut (sm.trans s) nD, ?_⟩
  · rw [List.length_map, List.length_range]
    exact szl (by omega)
  · rw [upd_same, List.range_succ, List.map_append]
    rfl
section
variable {P : Program} {w : World} {K : PySem.W.Frag} {mg : Str → Option Value} {base : Heap}
abbrev s_wide_covers : Stmt := topS 7
theorem sc_wide_covers : FnScope ["first", "second", "many", "few"] ["first", "second"] (defScope s_wide_covers) := ⟨rfl, rfl, rfl, by decide +kernel, rfl, by decide +kernel, by decide +kernel⟩
-- wide_covers slots: first=0 second=1 many=2 few=3 globals: zip
def spWCov (K : PySem.W.Frag) : Sp := fun vs H Q _ => ∃ (x y : V) (s t : Int) (ms ns : List (Option Int)), vs = [x, y] ∧ WSit K H x s ms ∧ WSit K H y t ns ∧ ms.length = ns.length ∧ ∀ H', Same H H' → Q (.bl (covW s ms t ns)) H'
theorem fd_wide_covers {f : Addr} {fd : FuncData} (F : Fun K "wide_covers" "wide_covers" s_wide_covers f fd) (m : mg "wide_covers" = some (.ref f)) (B : Bt mg) : Fd P w K mg base "wide_covers" ["first", "second"] 1 (spWCov K) := by
  refine ⟨f, fd, F.ok sc_wide_covers (fun vs H Q E h => ?_) (fun cdv A outer s H vs Q E hr h => ?_), m, F.kp, F.binds (ps := ["first", "second"]) fun _ _ _ _ _ _ us hl => match us, hl with | [_, _], _ => rfl⟩
  · obtain ⟨x, y, s, t, ms, ns, rfl, _⟩ := h
    rfl
  obtain ⟨x, y, s, t, ms, ns, rfl, ⟨a, ca, rfl, ha, hca⟩, ⟨b, cb, rfl, hb, hcb⟩, hl, q⟩ := h
  refine ⟨_, (pss_cons (ps_if (pt_cmpR op_ne (pe_ix (ixT K) (pv 0) pe_int (fun _ _ => rfl)) (pe_ix (ixT K) (pv 1) pe_int (fun _ _ => rfl)) (nomark _))
 (pss_one (ps_ret pe_bl))
 pss_nil)
 (pss_cons (ps_for PassesOwn.never rfl (pi_zip (by rfl) B.zip (pa_cons (pe_ix (ixT K) (pv 0) pe_int (fun _ _ => rfl)) (pa_cons (pe_ix (ixT K) (pv 1) pe_int (fun _ _ => rfl)) pa_nil))) (pg_tup rfl (pgs_cons (pg_name (i := 2) sc_wide_covers.nd rfl (Or.inl rfl)) (pgs_cons (pg_name (i := 3) sc_wide_covers.nd rfl (Or.inl rfl)) pgs_nil)))
 (pss_one (ps_if (PW.pt (pw_and (pt_cmpR op_notN (pv 2) pe_non (nomark _)) (pw_and1 (PW.pt (pw_or (pt_cmpR op_isN (pv 3) pe_non (nomark _)) (pw_or1 (pt_cmpR op_lt (pv 2) (pv 3) (nomark _))))))))
 (pss_one (ps_ret pe_bl))
 pss_nil)))
 (pss_one (ps_ret pe_bl)))), ?_⟩
  refine ⟨_, rfl, _, _, _, _, rfl, rfl, ha, atI_nat (j := 0) rfl, _, rfl, _, _, _, _, rfl, rfl, hb, atI_nat (j := 0) rfl, rfl, _, rfl, ?_⟩
  by_cases est : s = t
  · subst est
    rw [show (!decide (V.int s = V.int s)) = false by rw [decide_eq_true rfl]; rfl]
    refine iteF ?_
    refine ⟨_, rfl, _, _, _, _, rfl, rfl, ha, atI_nat (j := 1) rfl, _, rfl, _, _, _, _, rfl, rfl, hb, atI_nat (j := 1) rfl, ?_⟩
    refine ⟨_, _, _, _, rfl, hca, hcb, RZ.for_zipL (xs := ms.map oV) (ys := ns.map oV) (by rw [List.length_map, List.length_map]; exact hl) (fun i σ' H' => ∃ y2 y3 : Option V, σ' = [some (.ref a), some (.ref b), y2, y3] ∧ Same H H' ∧ geW (ms.take i) (ns.take i) = true) ⟨none, none, rfl, Same.refl _, rfl⟩ ?_ ?_ ?_⟩
    · rintro i σ' H' ⟨y2, y3, rfl, sm, _⟩
      exact ⟨sm.seq hca, sm.seq hcb⟩
    · rintro i x y T σ' H' hx hy ⟨y2, y3, rfl, sm, g⟩ nT
      obtain ⟨u, hu, rfl⟩ := get_map_inv hx
      obtain ⟨v, hv, rfl⟩ := get_map_inv hy
      have sm2 : Same H (upd H' T (.tup [oV u, oV v])) := sm.trans (same_new nT)
      have no : geO u v = false → Q (.bl false) (upd H' T (.tup [oV u, oV v])) := fun e => by
        have e2 : covW s ms s ns = false := by
          unfold covW
          rw [geW_false (i := i + 1), Bool.and_false]
          rw [geW_take hu hv, e, Bool.and_false]
        rw [← e2]
        exact q _ sm2
      have yes : geO u v = true → ∃ y2 y3 : Option V, [some (V.ref a), some (.ref b), some (oV u), some (oV v)] = [some (.ref a), some (.ref b), y2, y3] ∧ Same H (upd H' T (.tup [oV u, oV v])) ∧ geW (ms.take (i + 1)) (ns.take (i + 1)) = true := fun e => ⟨_, _, rfl, sm2, by rw [geW_take hu hv, g, e]; rfl⟩
      refine ⟨_, _, rfl, .inl (.inl upd_same), rfl, _, _, rfl, _, _, rfl, rfl, ?_⟩
      refine ⟨_, rfl, rfl, _, rfl, ?_⟩
      rw [oV_non]
      cases u with
      | none => exact iteF (iteF (yes rfl))
      | some m =>
        refine iteT ?_
        refine ⟨_, rfl, rfl, _, rfl, ?_⟩
        rw [oV_non]
        cases v with
        | none => exact iteT (iteT (no rfl))
        | some n =>
          refine iteF ?_
          refine ⟨_, rfl, _, rfl, _, _, rfl, rfl, _, rfl, ite2 (fun e => ?_) (fun e => ?_)⟩
          · have e1 := of_decide_eq_true e
            exact no (decide_eq_false (by omega))
          · have e1 : ¬ m < n := fun z => e (decide_eq_true z)
            exact yes (decide_eq_true (by omega))
    · rintro σ' H' ⟨y2, y3, rfl, sm, g⟩
      rw [List.length_map] at g
      have e2 : covW s ms s ns = true := by
        unfold covW
        rw [List.take_length, hl, List.take_length] at g
        rw [g, decide_eq_true (show s = s from rfl)]
        rfl
      rw [← e2]
      exact q _ sm
  · rw [show (!decide (V.int s = V.int t)) = true by rw [decide_eq_false (fun z => est (by cases z; rfl))]; rfl]
    refine iteT ?_
    rw [← show covW s ms t ns = false by unfold covW; rw [decide_eq_false est]; rfl]
    exact q _ (Same.refl _)
abbrev s_law_wide_covers : Stmt := topS 19
theorem sc_law_wide_covers : FnScope ["first", "second", "k"] ["first", "second"] (defScope s_law_wide_covers) := ⟨rfl, rfl, rfl, by decide +kernel, rfl, by decide +kernel, by decide +kernel⟩
-- _law_wide_covers slots: first=0 second=1 k=2 globals: range len
def spLWCov (K : PySem.W.Frag) : Sp := fun vs H Q _ => ∃ (x y : V) (s t : Int) (ms ns : List (Option Int)), vs = [x, y] ∧ WSit K H x s ms ∧ WSit K H y t ns ∧ ms.length = ns.length ∧ ns.length ≤ 1000 ∧ Q (.bl (covW s ms t ns)) H
theorem fd_law_wide_covers {f : Addr} {fd : FuncData} (F : Fun K "_law_wide_covers" "_law_wide_covers" s_law_wide_covers f fd) (m : mg "_law_wide_covers" = some (.ref f)) (B : Bt mg) : Fd P w K mg base "_law_wide_covers" ["first", "second"] 1 (spLWCov K) := by
  refine ⟨f, fd, F.ok sc_law_wide_covers (fun vs H Q E h => ?_) (fun cdv A outer s H vs Q E hr h => ?_), m, F.kp, F.binds (ps := ["first", "second"]) fun _ _ _ _ _ _ us hl => match us, hl with | [_, _], _ => rfl⟩
  · obtain ⟨x, y, s, t, ms, ns, rfl, _⟩ := h
    rfl
  obtain ⟨x, y, s, t, ms, ns, rfl, ⟨a, ca, rfl, ha, hca⟩, ⟨b, cb, rfl, hb, hcb⟩, hl, hn, q⟩ := h
  refine ⟨_, (pss_cons (ps_if (pt_cmpR op_ne (pe_ix (ixT K) (pv 0) pe_int (fun _ _ => rfl)) (pe_ix (ixT K) (pv 1) pe_int (fun _ _ => rfl)) (nomark _))
 (pss_one (ps_ret pe_bl))
 pss_nil)
 (pss_cons (ps_for PassesOwn.never rfl (pi_range1 rfl B.range (pa_cons (pe_callB (cLen K) (by rfl) B.len PySem.boot_len (pa_cons (pe_ix (ixT K) (pv 1) pe_int (fun _ _ => rfl)) pa_nil)) pa_nil)) (pg_name (i := 2) sc_law_wide_covers.nd rfl (Or.inl rfl))
 (pss_one (ps_if (PW.pt (pw_and (pt_cmpR op_notN (pe_ix (ixL K) (pe_ix (ixT K) (pv 0) pe_int (fun _ _ => rfl)) (pv 2) (fun _ _ => rfl)) pe_non (nomark _)) (pw_and1 (PW.pt (pw_or (pt_cmpR op_isN (pe_ix (ixL K) (pe_ix (ixT K) (pv 1) pe_int (fun _ _ => rfl)) (pv 2) (fun _ _ => rfl)) pe_non (nomark _)) (pw_or1 (pt_cmpR op_lt (pe_ix (ixL K) (pe_ix (ixT K) (pv 0) pe_int (fun _ _ => rfl)) (pv 2) (fun _ _ => rfl)) (pe_ix (ixL K) (pe_ix (ixT K) (pv 1) pe_int (fun _ _ => rfl)) (pv 2) (fun _ _ => rfl)) (nomark _))))))))
 (pss_one (ps_ret pe_bl))
 pss_nil)))
 (pss_one (ps_ret pe_bl)))), ?_⟩
  refine ⟨_, rfl, _, _, _, _, rfl, rfl, ha, atI_nat (j := 0) rfl, _, rfl, _, _, _, _, rfl, rfl, hb, atI_nat (j := 0) rfl, rfl, _, rfl, ?_⟩
  by_cases est : s = t
  · subst est
    rw [show (!decide (V.int s = V.int s)) = false by rw [decide_eq_true rfl]; rfl]
    refine iteF ?_
    have ll : (ns.map oV).length = ns.length := List.length_map _
    refine ⟨_, rfl, _, _, _, _, rfl, rfl, hb, atI_nat (j := 1) rfl, cb, _, rfl, .inl hcb, _, rfl, by rw [ll]; omega, by rw [ll]; omega, for_range (lo := 0) (n := (ns.map oV).length) (fun i σ' H' => ∃ y2 : Option V, σ' = [some (.ref a), some (.ref b), y2] ∧ H' = H ∧ geW (ms.take i) (ns.take i) = true) ⟨none, rfl, rfl, rfl⟩ ?_ ?_⟩
    · rintro i σ' H' hi ⟨y2, rfl, rfl, g⟩
      rw [ll] at hi
      have hz : (0 : Int) + (i : Int) = (i : Int) := by omega
      have hu : ms[i]? = some (ms.getD i none) := gdO (by omega)
      have hv : ns[i]? = some (ns.getD i none) := gdO hi
      have au := at_gdO (ds := ms) hz (by omega)
      have av := at_gdO (ds := ns) hz hi
      have no : geO (ms.getD i none) (ns.getD i none) = false → Q (.bl false) H' := fun e => by
        have e2 : covW s ms s ns = false := by
          unfold covW
          rw [geW_false (i := i + 1), Bool.and_false]
          rw [geW_take hu hv, e, Bool.and_false]
        rw [← e2]
        exact q
      have yes : geO (ms.getD i none) (ns.getD i none) = true → ∃ y2 : Option V, [some (V.ref a), some (.ref b), some (.int (0 + (i : Int)))] = [some (.ref a), some (.ref b), y2] ∧ H' = H' ∧ geW (ms.take (i + 1)) (ns.take (i + 1)) = true := fun e => ⟨_, rfl, rfl, by rw [geW_take hu hv, g, e]; rfl⟩
      generalize ms.getD i none = u at *
      generalize ns.getD i none = v at *
      refine ⟨_, rfl, _, _, _, _, rfl, rfl, ha, atI_nat (j := 1) rfl, _, rfl, _, _, _, _, rfl, rfl, hca, au, rfl, _, rfl, ?_⟩
      rw [oV_non]
      cases u with
      | none => exact iteF (iteF (yes rfl))
      | some m =>
        refine iteT ?_
        refine ⟨_, rfl, _, _, _, _, rfl, rfl, hb, atI_nat (j := 1) rfl, _, rfl, _, _, _, _, rfl, rfl, hcb, av, rfl, _, rfl, ?_⟩
        rw [oV_non]
        cases v with
        | none => exact iteT (iteT (no rfl))
        | some n =>
          refine iteF ?_
          refine ⟨_, rfl, _, _, _, _, rfl, rfl, ha, atI_nat (j := 1) rfl, _, rfl, _, _, _, _, rfl, rfl, hca, au, _, rfl, _, _, _, _, rfl, rfl, hb, atI_nat (j := 1) rfl, _, rfl, _, _, _, _, rfl, rfl, hcb, av, _, _, rfl, rfl, _, rfl, ite2 (fun e => ?_) (fun e => ?_)⟩
          · have e1 := of_decide_eq_true e
            exact no (decide_eq_false (by omega))
          · have e1 : ¬ m < n := fun z => e (decide_eq_true z)
            exact yes (decide_eq_true (by omega))
    · rintro σ' H' ⟨y2, rfl, rfl, g⟩
      rw [ll] at g
      have e2 : covW s ms s ns = true := by
        unfold covW
        rw [← hl, List.take_length, hl, List.take_length] at g
        rw [g, decide_eq_true (show s = s from rfl)]
        rfl
      rw [← e2]
      exact q
  · rw [show (!decide (V.int s = V.int t)) = true by rw [decide_eq_false (fun z => est (by cases z; rfl))]; rfl]
    refine iteT ?_
    rw [← show covW s ms t ns = false by unfold covW; rw [decide_eq_false est]; rfl]
    exact q
end
/-! ### moves of wide situations -/
def bumpO (cs : List (Option Int)) (k : Nat) (z : Int) : List (Option Int) := cs.set k ((cs.getD k none).map (· + z))
def chgO (cs : List (Option Int)) (p : Option Nat × Int) : List (Option Int) := match p.1 with
  | none => cs
  | some k => bumpO cs k p.2
def MvT.stepsW (m : MvT) : List (Option Nat × Int) := [(some m.pl, -1), (some m.np, 1), (m.sd, 1)]
def MvT.aftW (m : MvT) (cs : List (Option Int)) : List (Option Int) := m.stepsW.foldl chgO cs
def posO : Option Int → Bool
  | none => true
  | some c => decide (0 < c)
def MvT.canW (m : MvT) (s : Int) (cs : List (Option Int)) : Bool := decide ((m.st : Int) = s) && posO (cs.getD m.pl none)
theorem bumpO_len (cs : List (Option Int)) (k : Nat) (z : Int) : (bumpO cs k z).length = cs.length := List.length_set
theorem chgO_len (cs : List (Option Int)) (p : Option Nat × Int) : (chgO cs p).length = cs.length := by
  unfold chgO
  split
  · rfl
  · exact bumpO_len _ _ _
theorem chgs_len : ∀ (ps : List (Option Nat × Int)) (cs : List (Option Int)), (ps.foldl chgO cs).length = cs.length
  | [], _ => rfl
  | p :: r, cs => by
    show (r.foldl chgO (chgO cs p)).length = _
    rw [chgs_len r, chgO_len]
theorem aftW_len (m : MvT) (cs : List (Option Int)) : (m.aftW cs).length = cs.length := chgs_len _ _
theorem bumpO_none {cs : List (Option Int)} {k : Nat} {z : Int} (hk : k < cs.length) (h : cs.getD k none = none) : bumpO cs k z = cs := by
  unfold bumpO
  rw [h]
  show cs.set k none = cs
  refine List.ext_getElem? fun i => ?_
  rw [List.getElem?_set]
  split
  · rename_i e
    subst e
    rw [gdO hk, h]
  · rfl
theorem set_oV (cs : List (Option Int)) (k : Nat) (z : Int) : (cs.map oV).set k (.int z) = (cs.set k (some z)).map oV := by
  rw [List.map_set]
  rfl
/-- a wide situation made anew -/
def NewW (H H' : Hp) (p : Addr) (s : Int) (cs : List (Option Int)) : Prop := ∃ ca, H p = none ∧ H ca = none ∧ ca ≠ p ∧ H' p = some (.tup [.int s, .ref ca]) ∧ H' ca = some (.lst (cs.map oV))
theorem NewW.sit {K : PySem.W.Frag} {H H' : Hp} {p : Addr} {s : Int} {cs : List (Option Int)} (h : NewW H H' p s cs) : WSit K H' (.ref p) s cs := by
  obtain ⟨ca, _, _, _, h1, h2⟩ := h
  exact ⟨p, ca, rfl, My.st h1, sq h2⟩
section
variable {P : Program} {w : World} {K : PySem.W.Frag} {mg : Str → Option Value} {base : Heap}
abbrev s_can_take_wide : Stmt := topS 12
theorem sc_can_take_wide : FnScope ["situation", "move", "count"] ["situation", "move"] (defScope s_can_take_wide) := ⟨rfl, rfl, rfl, by decide +kernel, rfl, by decide +kernel, by decide +kernel⟩
-- can_take_wide slots: situation=0 move=1 count=2 globals: 
def spCanW (K : PySem.W.Frag) : Sp := fun vs H Q _ => ∃ (x y : V) (s : Int) (cs : List (Option Int)) (m : MvT), vs = [x, y] ∧ WSit K H x s cs ∧ Dp K H y m.data ∧ m.pl < cs.length ∧ Q (.bl (m.canW s cs)) H
theorem fd_can_take_wide {f : Addr} {fd : FuncData} (F : Fun K "can_take_wide" "can_take_wide" s_can_take_wide f fd) (m : mg "can_take_wide" = some (.ref f)) (B : Bt mg) : Fd P w K mg base "can_take_wide" ["situation", "move"] 1 (spCanW K) := by
  refine ⟨f, fd, F.ok sc_can_take_wide (fun vs H Q E h => ?_) (fun cdv A outer s H vs Q E hr h => ?_), m, F.kp, F.binds (ps := ["situation", "move"]) fun _ _ _ _ _ _ us hl => match us, hl with | [_, _], _ => rfl⟩
  · obtain ⟨x, y, s, cs, m, rfl, _⟩ := h
    rfl
  obtain ⟨x, y, s, cs, mv, rfl, ⟨a, ca, rfl, ha, hca⟩, hd, hp, q⟩ := h
  obtain ⟨b, sa, xs, rfl, hb, _⟩ := dp_mv hd
  refine ⟨_, (pss_cons (ps_set (i := 2) sc_can_take_wide.nd rfl (Or.inl rfl) (pe_ix (ixL K) (pe_ix (ixT K) (pv 0) pe_int (fun _ _ => rfl)) (pe_ix (ixT K) (pv 1) pe_int (fun _ _ => rfl)) (fun _ _ => rfl)))
 (pss_one (ps_ret (pe_and (pe_cmpR op_eq (pe_ix (ixT K) (pv 1) pe_int (fun _ _ => rfl)) (pe_ix (ixT K) (pv 0) pe_int (fun _ _ => rfl)) (nomark _)) (pe_one (pe_or (pe_cmpR op_isN (pv 2) pe_non (nomark _)) (pe_one (pe_cmpR op_gt (pv 2) pe_int (nomark _))))))))), ?_⟩
  have ac := at_gdO (ds := cs) (i := (mv.pl : Int)) rfl hp
  refine ⟨_, rfl, _, _, _, _, rfl, rfl, ha, atI_nat (j := 1) rfl, _, rfl, _, _, _, _, rfl, rfl, hb, atI_nat (j := 1) rfl, _, _, _, _, rfl, rfl, hca, ac, ?_⟩
  dsimp only [gName]
  refine ⟨_, rfl, _, _, _, _, rfl, rfl, hb, atI_nat (j := 0) rfl, _, rfl, _, _, _, _, rfl, rfl, ha, atI_nat (j := 0) rfl, rfl, _, rfl, ?_⟩
  rw [int_eqE]
  unfold MvT.canW at q
  cases e : decide ((mv.st : Int) = s) with
  | false =>
    rw [e, Bool.false_and] at q
    exact iteF q
  | true =>
    rw [e, Bool.true_and] at q
    refine iteT ?_
    generalize cs.getD mv.pl none = c at q ⊢
    cases c with
    | none => exact ⟨_, rfl, rfl, _, rfl, iteT q⟩
    | some c => exact ⟨_, rfl, rfl, _, rfl, iteF ⟨_, rfl, _, _, rfl, rfl, q⟩⟩
abbrev s_taken_wide : Stmt := topS 13
theorem sc_taken_wide : FnScope ["situation", "move", "_", "place", "next_state", "next_place", "started", "counts", "changed", "change"] ["situation", "move"] (defScope s_taken_wide) := ⟨rfl, rfl, rfl, by decide +kernel, rfl, by decide +kernel, by decide +kernel⟩
-- taken_wide slots: situation=0 move=1 _=2 place=3 next_state=4 next_place=5 started=6 counts=7 changed=8 change=9 globals: list
def spTakenW (K : PySem.W.Frag) : Sp := fun vs H Q _ => ∃ (x y : V) (s : Int) (cs : List (Option Int)) (m : MvT) (S : Nat), vs = [x, y] ∧ WSit K H x s cs ∧ Dp K H y m.data ∧ m.Fit S cs.length ∧
  ∀ H' p, Same H H' → NewW H H' p m.ns (m.aftW cs) → Q (.ref p) H'
theorem fd_taken_wide {f : Addr} {fd : FuncData} (F : Fun K "taken_wide" "taken_wide" s_taken_wide f fd) (m : mg "taken_wide" = some (.ref f)) (B : Bt mg) : Fd P w K mg base "taken_wide" ["situation", "move"] 1 (spTakenW K) := by
  refine ⟨f, fd, F.ok sc_taken_wide (fun vs H Q E h => ?_) (fun cdv A outer s H vs Q E hr h => ?_), m, F.kp, F.binds (ps := ["situation", "move"]) fun _ _ _ _ _ _ us hl => match us, hl with | [_, _], _ => rfl⟩
  · obtain ⟨x, y, s, cs, m, S, rfl, _⟩ := h
    rfl
  obtain ⟨x, y, s, cs, mv, S, rfl, ⟨a, ca, rfl, ha, hca⟩, hd, hf, q⟩ := h
  obtain ⟨b, sa, xs, rfl, hb, _⟩ := dp_mv hd
  refine ⟨_, (pss_cons (ps_asg (pv 1) (pg_tup rfl (pgs_cons (pg_name (i := 2) sc_taken_wide.nd rfl (Or.inl rfl)) (pgs_cons (pg_name (i := 3) sc_taken_wide.nd rfl (Or.inl rfl)) (pgs_cons (pg_name (i := 4) sc_taken_wide.nd rfl (Or.inl rfl)) (pgs_cons (pg_name (i := 5) sc_taken_wide.nd rfl (Or.inl rfl)) (pgs_cons (pg_name (i := 6) sc_taken_wide.nd rfl (Or.inl rfl)) (pgs_cons (pg_name (i := 2) sc_taken_wide.nd rfl (Or.inl rfl)) pgs_nil))))))))
 (pss_cons (ps_set (i := 7) sc_taken_wide.nd rfl (Or.inl rfl) (pe_callTy (cList K) (by rfl) B.list (by decide +kernel) (pa_cons (pe_ix (ixT K) (pv 0) pe_int (fun _ _ => rfl)) pa_nil)))
 (pss_cons (ps_for PassesOwn.never rfl (piT K (pe_tup (pa_cons (pe_tup (pa_cons (pv 3) (pa_cons (pe_un un_neg pe_int) pa_nil))) (pa_cons (pe_tup (pa_cons (pv 5) (pa_cons pe_int pa_nil))) (pa_cons (pe_tup (pa_cons (pv 6) (pa_cons pe_int pa_nil))) pa_nil))))) (pg_tup rfl (pgs_cons (pg_name (i := 8) sc_taken_wide.nd rfl (Or.inl rfl)) (pgs_cons (pg_name (i := 9) sc_taken_wide.nd rfl (Or.inl rfl)) pgs_nil)))
 (pss_one (ps_if (PW.pt (pw_and (pt_cmpR op_notN (pv 8) pe_non (nomark _)) (pw_and1 (pt_cmpR op_notN (pe_ix (ixL K) (pv 7) (pv 8) (fun _ _ => rfl)) pe_non (nomark _)))))
 (pss_one (ps_augS (pv 7) (pv 8) (getL K) (pv 9) ip_add set_list))
 pss_nil)))
 (pss_one (ps_ret (pe_tup (pa_cons (pv 4) (pa_cons (pv 7) pa_nil)))))))), ?_⟩
  refine ⟨_, rfl, b, _, rfl, hb, rfl, _, _, rfl, _, _, rfl, _, _, rfl, _, _, rfl, _, _, rfl, _, _, rfl, rfl, ?_⟩
  dsimp only [gName]
  refine ⟨_, rfl, _, _, _, _, rfl, rfl, ha, atI_nat (j := 1) rfl, ca, _, rfl, .inl hca, fun l nl => ?_⟩
  dsimp only [gName]
  have s1 := same_new (o := HO.lst (cs.map oV)) nl
  have el : (upd H l (.lst (cs.map oV))) l = some (.lst (cs.map oV)) := upd_same
  generalize upd H l (.lst (cs.map oV)) = H1 at s1 el ⊢
  refine ⟨_, rfl, _, rfl, szc 2, fun t1 n1 => ?_⟩
  refine ⟨_, rfl, szc 2, fun t2 n2 => ?_⟩
  refine ⟨_, rfl, szc 2, fun t3 n3 => ⟨szc 3, fun t4 n4 => ?_⟩⟩
  have e3 : (upd (upd (upd (upd H1 t1 (.tup [nV mv.pl, .int (-1)])) t2 (.tup [nV mv.np, .int 1])) t3 (.tup [sdV mv.sd, .int 1])) t4 (.tup [.ref t1, .ref t2, .ref t3])) t3 = some (.tup [sdV mv.sd, .int 1]) := (same_new n4) _ _ upd_same
  have e2 : (upd (upd (upd (upd H1 t1 (.tup [nV mv.pl, .int (-1)])) t2 (.tup [nV mv.np, .int 1])) t3 (.tup [sdV mv.sd, .int 1])) t4 (.tup [.ref t1, .ref t2, .ref t3])) t2 = some (.tup [nV mv.np, .int 1]) := (same_new n4) _ _ ((same_new n3) _ _ upd_same)
  have e1 : (upd (upd (upd (upd H1 t1 (.tup [nV mv.pl, .int (-1)])) t2 (.tup [nV mv.np, .int 1])) t3 (.tup [sdV mv.sd, .int 1])) t4 (.tup [.ref t1, .ref t2, .ref t3])) t1 = some (.tup [nV mv.pl, .int (-1)]) := (same_new n4) _ _ ((same_new n3) _ _ ((same_new n2) _ _ upd_same))
  have e4 : (upd (upd (upd (upd H1 t1 (.tup [nV mv.pl, .int (-1)])) t2 (.tup [nV mv.np, .int 1])) t3 (.tup [sdV mv.sd, .int 1])) t4 (.tup [.ref t1, .ref t2, .ref t3])) t4 = some (.tup [.ref t1, .ref t2, .ref t3]) := upd_same
  have s14 : Same H1 (upd (upd (upd (upd H1 t1 (.tup [nV mv.pl, .int (-1)])) t2 (.tup [nV mv.np, .int 1])) t3 (.tup [sdV mv.sd, .int 1])) t4 (.tup [.ref t1, .ref t2, .ref t3])) := ((same_new n1).trans (same_new n2)).trans ((same_new n3).trans (same_new n4))
  generalize upd (upd (upd (upd H1 t1 (.tup [nV mv.pl, .int (-1)])) t2 (.tup [nV mv.np, .int 1])) t3 (.tup [sdV mv.sd, .int 1])) t4 (.tup [.ref t1, .ref t2, .ref t3]) = H2 at e1 e2 e3 e4 s14 ⊢
  clear n1 n2 n3 n4
  have el2 := s14 _ _ el
  have s12 := s1.trans s14
  have dl : ∀ {t : Addr} {xs : List V}, H2 t = some (.tup xs) → t ≠ l := fun h e => by rw [e, el2] at h; cases h
  have tAt : ∀ (i : Nat) (x : V), [V.ref t1, .ref t2, .ref t3][i]? = some x → ∃ (t : Addr) (o : Option Nat) (z : Int), x = .ref t ∧ H2 t = some (.tup [sdV o, .int z]) ∧ mv.stepsW[i]? = some (o, z) ∧ (∀ k, o = some k → k < cs.length) := fun i x h => by
    match i, h with
    | 0, h => cases h; exact ⟨t1, some mv.pl, -1, rfl, e1, rfl, fun k e => by cases e; exact hf.pl⟩
    | 1, h => cases h; exact ⟨t2, some mv.np, 1, rfl, e2, rfl, fun k e => by cases e; exact hf.np⟩
    | 2, h => cases h; exact ⟨t3, mv.sd, 1, rfl, e3, rfl, hf.sd⟩
  refine ⟨t4, rfl, ⟨_, st e4⟩, for_tup (xs := [.ref t1, .ref t2, .ref t3]) (fun i σ' H' => ∃ y8 y9 : Option V, σ' = [some (.ref a), some (.ref b), some (.ref sa), some (nV mv.pl), some (nV mv.ns), some (nV mv.np), some (sdV mv.sd), some (.ref l), y8, y9] ∧ Same (Ho l H2) (Ho l H') ∧ Same H H' ∧ H' l = some (.lst (((mv.stepsW.take i).foldl chgO cs).map oV))) ⟨none, none, rfl, Same.refl _, s12, el2⟩ ?_ ?_ ?_⟩
  · rintro i σ' H' _ ⟨y8, y9, rfl, sh, _, _⟩
    refine st (ho_out _ _ (sh _ _ ?_))
    unfold Ho
    rw [if_neg (dl e4)]
    exact e4
  · rintro i x σ' H' hx ⟨y8, y9, rfl, sh, sm, eL⟩
    obtain ⟨t, o, z, rfl, et, hs, ho⟩ := tAt i x hx
    have et' : H' t = some (.tup [sdV o, .int z]) := ho_out _ _ (sh _ _ (by unfold Ho; rw [if_neg (dl et)]; exact et))
    rw [take_snoc hs, List.foldl_append]
    have ln : ((mv.stepsW.take i).foldl chgO cs).length = cs.length := chgs_len _ _
    show _
    generalize (mv.stepsW.take i).foldl chgO cs = c1 at eL ln ⊢
    show _
    refine ⟨t, _, rfl, st et', rfl, _, _, rfl, _, _, rfl, rfl, ?_⟩
    dsimp only [gName]
    refine ⟨_, rfl, rfl, _, rfl, ?_⟩
    cases o with
    | none => exact iteF (iteF ⟨_, _, rfl, sh, sm, eL⟩)
    | some k =>
      have hk : k < c1.length := by rw [ln]; exact ho k rfl
      have ak := at_gdO (ds := c1) (i := (k : Int)) rfl hk
      refine iteT ⟨_, rfl, _, rfl, _, _, _, _, rfl, rfl, sq eL, ak, rfl, _, rfl, ?_⟩
      rw [oV_non]
      cases e : c1.getD k none with
      | none => exact iteF ⟨_, _, rfl, sh, sm, by show H' l = some (.lst ((bumpO c1 k z).map oV)); rw [bumpO_none hk e]; exact eL⟩
      | some c =>
        refine iteT ?_
        rw [e] at ak
        refine ⟨_, rfl, _, rfl, _, _, _, _, rfl, rfl, (show (0 : Int) ≤ (k : Int) by omega), sq eL, ak, _, rfl, _, _, rfl, rfl, _, _, _, _, rfl, rfl, eL, ixN_nat (by rw [List.length_map]; exact hk), ?_⟩
        rw [set_oV]
        refine ⟨_, _, rfl, sh.trans ho_mut, Same.mut sm nl, ?_⟩
        show _ = some (HO.lst ((bumpO c1 k z).map oV))
        unfold bumpO
        rw [e]
        exact upd_same
  · rintro σ' H' ⟨y8, y9, rfl, sh, sm, eL⟩
    refine ⟨_, rfl, _, rfl, szc 2, fun p np => ?_⟩
    have pl : p ≠ l := fun e => by rw [e, eL] at np; cases np
    exact q _ p (sm.trans (same_new np)) ⟨l, sm.free np, nl, Ne.symm pl, upd_same, by rw [upd_ne (Ne.symm pl)]; exact eL⟩
end
section
variable {P : Program} {w : World} {K : PySem.W.Frag} {mg : Str → Option Value} {base : Heap}
/-- a comprehension of numbers over a range -/
theorem lc_intR {n : Nat} (hn : n ≤ 90000) {j : Nat} {te : TE} {vs : List Nat} {σ : L2.St} {H1 : Hp} {D : Addr} {Qd : Hp → Prop} (nD : H1 D = none) (f : Nat → Int) (hw : ∀ x, wipe ((wipe σ vs).set j x) vs = wipe σ vs)
    (hs : ∀ i H, i < n → Same H1 H → te ((wipe σ vs).set j (some (.int ((0 : Int) + (i : Int))))) H fun y H4 => y = .int (f i) ∧ Same H H4)
    (mono : ∀ σ H (Q Q' : VK), (∀ v H', Q v H' → Q' v H') → te σ H Q → te σ H Q')
    (hd : ∀ H, Same H1 H → H D = some (.lst (((List.range n).map f).map V.int)) → Qd H) :
    ∃ W : Nat → Nat → Hp → Prop, (∃ m, W 0 m (upd H1 D (.lst []))) ∧ ∀ i m H, W i m H →
      ((Itr 0 n).stop i H ∧ Qd H) ∨ ((Itr 0 n).go i H ∧ ∃ Nx : Hp → Prop, (∀ H', Nx H' → ∃ m', m' < m ∧ W (i + 1) m' H') ∧ ∀ x H', (Itr 0 n).yld i H x H' → gName j x (wipe σ vs) H' fun σ2 H2 => wipe σ2 vs = wipe σ vs ∧ tYes σ2 H2 fun b H3 =>
        if b = true then te σ2 H3 fun y H4 => ∃ acc, H4 D = some (.lst acc) ∧ acc.length < sizeLine ∧ Nx (upd H4 D (.lst (acc ++ [y]))) else Nx H3) := by
  refine lc_range (fun i H' => Same H1 H' ∧ H' D = some (.lst (((List.range i).map f).map V.int))) ⟨same_new nD, upd_same⟩ ?_ fun H h => hd H h.1 h.2
  rintro i H hi ⟨sm, eD⟩
  refine ⟨hw _, ?_⟩
  show te _ H _
  refine mono _ _ _ _ ?_ (hs i H hi sm)
  rintro v H' ⟨rfl, s⟩
  refine ⟨_, s _ _ eD, ?_, Same.mut (sm.trans s) nD, ?_⟩
  · rw [List.length_map, List.length_map, List.length_range]
    exact szl (by omega)
  · rw [upd_same, List.range_succ, List.map_append, List.map_append]
    rfl
abbrev s_law_cell : Stmt := topS 16
theorem sc_law_cell : FnScope ["script", "k"] ["script", "k"] (defScope s_law_cell) := ⟨rfl, rfl, rfl, by decide +kernel, rfl, by decide +kernel, by decide +kernel⟩
-- _law_cell slots: script=0 k=1 globals: len abs int
def spCellP (K : PySem.W.Frag) : Sp := fun vs H Q _ => ∃ (a : Addr) (ns : List Int) (k : Nat), vs = [.ref a, .int (k : Int)] ∧ SqL K H a (ns.map V.int) ∧ ∀ z : Int, 0 ≤ z → Q (.int z) H
theorem fd_law_cell {f : Addr} {fd : FuncData} (F : Fun K "_law_cell" "_law_cell" s_law_cell f fd) (m : mg "_law_cell" = some (.ref f)) (B : Bt mg) : Fd P w K mg base "_law_cell" ["script", "k"] 1 (spCellP K) := by
  refine ⟨f, fd, F.ok sc_law_cell (fun vs H Q E h => ?_) (fun cdv A outer s H vs Q E hr h => ?_), m, F.kp, F.binds (ps := ["script", "k"]) fun _ _ _ _ _ _ us hl => match us, hl with | [_, _], _ => rfl⟩
  · obtain ⟨a, ns, k, rfl, _⟩ := h
    rfl
  obtain ⟨a, ns, k, rfl, hs, q⟩ := h
  refine ⟨_, (pss_cons (ps_if (pt_cmpR op_lt (pv 1) (pe_callB (cLen K) (by rfl) B.len PySem.boot_len (pa_cons (pv 0) pa_nil)) (nomark _))
 (pss_one (ps_ret (pe_callB call_abs (by rfl) B.abs (by decide +kernel) (pa_cons (pe_callTy call_int1 (by rfl) B.int (by decide +kernel) (pa_cons (pe_ix (ixQ K) (pv 0) (pv 1) (fun _ _ => rfl)) pa_nil)) pa_nil))))
 pss_nil)
 (pss_one (ps_ret pe_int))), ?_⟩
  refine ⟨_, rfl, _, rfl, a, _, rfl, .inl hs, _, _, rfl, rfl, _, rfl, ite2 (fun e => ?_) (fun e => ?_)⟩
  · have e1 := of_decide_eq_true e
    rw [List.length_map] at e1
    have e2 : k < ns.length := by omega
    refine ⟨_, rfl, _, rfl, .inl ⟨a, _, _, _, rfl, rfl, hs, atI_nat (get_map (List.getElem?_eq_getElem e2)), .inl ⟨_, rfl, _, rfl, q _ ?_⟩⟩⟩
    split <;> omega
  · exact q _ (by decide)
abbrev s_law_digits : Stmt := topS 17
theorem sc_law_digits : FnScope ["cell", "base", "most", "digits", "large", "k"] ["cell", "base", "most"] (defScope s_law_digits) := ⟨rfl, rfl, rfl, by decide +kernel, rfl, by decide +kernel, by decide +kernel⟩
-- _law_digits slots: cell=0 base=1 most=2 digits=3 large=4 k=5 globals: range int
def spDigits (K : PySem.W.Frag) : Sp := fun vs H Q _ => ∃ (c b : Int) (n : Nat), vs = [.int c, .int b, .int (n : Int)] ∧ 0 ≤ c ∧ 0 < b ∧ b < 1073741824 ∧ n ≤ 10000 ∧
  ∀ H' p (ds : List Int), Same H H' → H p = none → H' p = some (.lst (ds.map V.int)) → ds.length = n → (∀ d ∈ ds, 0 ≤ d ∧ d < b) → Q (.ref p) H'
theorem fd_law_digits {f : Addr} {fd : FuncData} (F : Fun K "_law_digits" "_law_digits" s_law_digits f fd) (m : mg "_law_digits" = some (.ref f)) (B : Bt mg) : Fd P w K mg base "_law_digits" ["cell", "base", "most"] 1 (spDigits K) := by
  refine ⟨f, fd, F.ok sc_law_digits (fun vs H Q E h => ?_) (fun cdv A outer s H vs Q E hr h => ?_), m, F.kp, F.binds (ps := ["cell", "base", "most"]) fun _ _ _ _ _ _ us hl => match us, hl with | [_, _, _], _ => rfl⟩
  · obtain ⟨c, b, n, rfl, _⟩ := h
    rfl
  obtain ⟨c, b, n, rfl, hc, hb, hb2, hn, q⟩ := h
  refine ⟨_, (pss_cons (ps_set (i := 3) sc_law_digits.nd rfl (Or.inl rfl) (pe_lst pa_nil))
 (pss_cons (ps_set (i := 4) sc_law_digits.nd rfl (Or.inl rfl) (pe_cmpR op_ge (pv 0) (pe_op op_pow pe_int pe_int) (nomark _)))
 (pss_cons (ps_for PassesOwn.never rfl (pi_range1 rfl B.range (pa_cons (pv 2) pa_nil)) (pg_name (i := 5) sc_law_digits.nd rfl (Or.inl rfl))
 (pss_one (ps_if (pt_val (pv 4))
 (pss_cons (ps_expr (peBm K PySem.F.plainAttrs_list PySem.F.slot_list_append PySem.F.type_list_append mt_append (pv 3) (pa_cons (pe_op op_mod (pe_callTy call_int1 (by rfl) B.int (by decide +kernel) (pa_cons (pv 0) pa_nil)) (pv 1)) pa_nil)))
 (pss_one (ps_set (i := 0) sc_law_digits.nd rfl (Or.inl rfl) (pe_op op_fdiv (pv 0) (pv 1)))))
 (pss_one (ps_expr (peBm K PySem.F.plainAttrs_list PySem.F.slot_list_append PySem.F.type_list_append mt_append (pv 3) (pa_cons (pe_op op_mod (pe_op op_mod (pe_callTy call_int1 (by rfl) B.int (by decide +kernel) (pa_cons (pe_op op_add (pe_op op_add (pe_op op_mul (pv 0) pe_int) (pe_op op_mul (pe_op op_mul (pe_op op_add (pv 5) pe_int) (pe_op op_add (pv 5) pe_int)) pe_int)) (pe_op op_mul (pe_op op_fdiv (pv 0) pe_int) (pv 5))) pa_nil)) pe_int) (pv 1)) pa_nil)))))))
 (pss_one (ps_ret (pv 3)))))), ?_⟩
  refine ⟨sz (by decide), fun o no => ?_⟩
  refine ⟨_, rfl, _, _, rfl, rfl, ⟨by decide, by decide, by decide⟩, _, _, rfl, rfl, ?_⟩
  refine ⟨_, rfl, n, rfl, by omega, by omega, for_range (lo := 0) (n := n) (fun i σ' H' => ∃ (lg : Bool) (c' : Int) (y : Option V) (ds : List Int), σ' = [some (.int c'), some (.int b), some (.int (n : Int)), some (.ref o), some (.bl lg), y] ∧ 0 ≤ c' ∧ Same H H' ∧ H' o = some (.lst (ds.map V.int)) ∧ ds.length = i ∧ ∀ d ∈ ds, 0 ≤ d ∧ d < b) ⟨_, c, none, [], rfl, hc, same_new no, upd_same, rfl, fun d hd => by cases hd⟩ ?_ ?_⟩
  · rintro i σ' H' hi ⟨lg, c', y, ds, rfl, hc', sm, eo, hl, hd⟩
    have dl : (ds.map V.int).length < sizeLine := szl (by rw [List.length_map]; omega)
    have hm : ∀ z : Int, 0 ≤ z % b ∧ z % b < b := fun z => ⟨Int.emod_nonneg _ (by omega), Int.emod_lt_of_pos _ hb⟩
    have fin : ∀ (c2 d : Int), 0 ≤ c2 → (0 ≤ d ∧ d < b) → ∃ (lg' : Bool) (c' : Int) (y : Option V) (ds' : List Int), [some (V.int c2), some (.int b), some (.int (n : Int)), some (.ref o), some (.bl lg), some (.int (0 + (i : Int)))] = [some (.int c'), some (.int b), some (.int (n : Int)), some (.ref o), some (.bl lg'), y] ∧ 0 ≤ c' ∧ Same H (upd H' o (.lst (ds.map V.int ++ [.int d]))) ∧ (upd H' o (.lst (ds.map V.int ++ [.int d]))) o = some (.lst (ds'.map V.int)) ∧ ds'.length = i + 1 ∧ ∀ d ∈ ds', 0 ≤ d ∧ d < b := fun c2 d h1 h2 =>
      ⟨lg, c2, _, ds ++ [d], rfl, h1, Same.mut sm no, by rw [upd_same, List.map_append]; rfl, by rw [List.length_append, hl]; rfl, fun x hx => by
        rcases List.mem_append.mp hx with hx | hx
        · exact hd x hx
        · rw [List.mem_singleton.mp hx]; exact h2⟩
    refine ⟨_, rfl, lg, rfl, ?_⟩
    cases lg with
    | true =>
      refine iteT ?_
      refine ⟨_, rfl, .inl ⟨rfl, _, sq eo⟩, _, rfl, .inl ⟨_, rfl, _, rfl, _, _, rfl, rfl, hb, o, _, _, rfl, rfl, eo, dl, ?_⟩⟩
      refine ⟨_, rfl, _, rfl, _, _, rfl, rfl, ⟨hb, hb2⟩, ?_⟩
      exact fin _ _ (Int.ediv_nonneg hc' (by omega)) (hm _)
    | false =>
      refine iteF ?_
      refine ⟨_, rfl, .inl ⟨rfl, _, sq eo⟩, _, rfl, _, _, rfl, rfl, .inr ⟨by decide, by decide⟩, ?_⟩
      refine ⟨_, rfl, _, _, rfl, rfl, _, rfl, _, _, rfl, rfl, _, _, rfl, rfl, .inl ⟨by omega, by omega⟩, _, _, rfl, rfl, .inr ⟨by decide, by decide⟩, _, _, rfl, rfl, ?_⟩
      refine ⟨_, rfl, _, _, rfl, rfl, ⟨by decide, by decide⟩, _, rfl, _, _, rfl, rfl, .inr ⟨by omega, by omega⟩, _, _, rfl, rfl, ?_⟩
      refine .inl ⟨_, rfl, _, _, rfl, rfl, (by show (0 : Int) < 2147483647; decide), _, rfl, _, _, rfl, rfl, hb, o, _, _, rfl, rfl, eo, dl, ?_⟩
      exact fin _ _ hc' (hm _)
  · rintro σ' H' ⟨lg, c', y, ds, rfl, hc', sm, eo, hl, hd⟩
    exact ⟨_, rfl, q H' o ds sm no eo hl hd⟩
end
/-! ### exceptions of the program's own -/
/-- what the written part says of an exception's class -/
structure ExcX (K : PySem.W.Frag) (mg : Str → Option Value) (x : Str) (C : Addr) : Prop where
  gC : mg x = some (.ref C)
  exc : PySem.W.excIn K C [.type "ValueError", .type "Exception", .type "BaseException", .type "object"] "ValueError.__new__" = true
  kC : PySem.W.keepIn K (.ref C) = true
  ty : PySem.W.typeIn K (.ref C) = some (.type "type")
  ic : PySem.W.isClsIn K C = true
  self : PySem.W.subIn K (.ref C) (.ref C) = some true
  val : PySem.W.subIn K (.ref C) (.type "ValueError") = some true
  is : ExcC K C
theorem ExcX.sub {K : PySem.W.Frag} {mg : Str → Option Value} {x : Str} {C : Addr} (h : ExcX K mg x C) : PySem.W.subIn K (.ref C) (.type "BaseException") = some true := h.is.hs
theorem kit_ref {K : PySem.W.Frag} {C D : Addr} {b : Bool} (hi : PySem.W.isClsIn K D = true) (ht : PySem.W.typeIn K (.ref D) = some (.type "type")) (hne : C ≠ D) (hs : PySem.W.subIn K (.ref C) (.ref D) = some b) : PySem.W.kitOne K (.ref C) (.ref D) = some b := by
  have e0 : ¬ ((Value.ref C == Value.ref D) = true) := fun z => hne (by cases (beq_iff_eq.mp z); rfl)
  have e2 : ((PySem.W.clsIn K D).isSome && PySem.W.typeIn K (.ref D) == some (.type "type")) = true := by
    have h2' : (PySem.W.clsIn K D).isSome = true := hi
    rw [h2', ht] <;> rfl
  show (if (Value.ref C == Value.ref D) = true then some true else if ((PySem.W.clsIn K D).isSome && PySem.W.typeIn K (.ref D) == some (.type "type")) = true then PySem.W.subIn K (.ref C) (.ref D) else none) = some b
  rw [if_neg e0, if_pos e2]
  exact hs
theorem kit_val {K : PySem.W.Frag} {C : Addr} (hs : PySem.W.subIn K (.ref C) (.type "ValueError") = some true) : PySem.W.kitOne K (.ref C) (.type "ValueError") = some true := by
  show (if (Value.ref C == Value.type "ValueError") = true then some true else if PySem.W.kitMeta "ValueError" = true then PySem.W.subIn K (.ref C) (.type "ValueError") else none) = some true
  rw [if_neg (by intro z; cases (beq_iff_eq.mp z)), if_pos (by decide +kernel)]
  exact hs
theorem exm_own {K : PySem.W.Frag} {mg : Str → Option Value} {x : Str} {C D : Addr} {b : Bool} (hD : ExcX K mg x D) (hs : PySem.W.subIn K (.ref C) (.ref D) = some b) : PySem.W.exmOne K (.ref C) (.ref D) = some b := PySem.W.exm_ref hD.sub hD.is.hd hD.ty hs
/-- isinstance(e, c) and isinstance(e, (c1, c2, ..)), e the exception that the suite holds -/
def rIsEx (K : PySem.W.Frag) (a : Addr) (cls : Value) (d : Option Addr) : List V → Hp → VK → Prop := fun xs H Q => ∃ (D : Addr) (b : Bool), cls = .ref D ∧ d = none ∧ ExcC K D ∧ Q (.bl b) H ∧
  ((∃ (c : V) (cv : Value), xs = [.ref a, c] ∧ ClsV c cv ∧ PySem.W.kitOne K (.ref D) cv = some b) ∨ ∃ (tp : Addr) (cs : List V) (us : List Value), xs = [.ref a, .ref tp] ∧ H tp = some (.tup cs) ∧ Paired ClsV cs us ∧ PySem.W.kitAny K (.ref D) us = some b)
theorem call_isEx {X : Cx} {a : Addr} {cls : Value} {d : Option Addr} {oe : Obj} {pn : List (Addr × Obj)} (hz : Zc cls d oe) (hf : ∃ vs, oe.data = .fields vs) : CallR (X.suite a ((a, oe) :: pn)) (.builtin "isinstance") (rIsEx X.K a cls d) := by
  intro pins s σ H xs us Q I r h
  obtain ⟨D, b, rfl, rfl, C, q, h⟩ := h
  rcases h with ⟨c, cv, rfl, hcv, e⟩ | ⟨tp, cs, ws, rfl, hT, k, e⟩
  · exact call_isE C hz hf pins s σ H _ us Q I r ⟨c, cv, b, rfl, fun u hu => hcv.eq hu, e, q⟩
  · obtain ⟨u1, u2, rfl, r1, r2⟩ := vals2 r
    cases (show u2 = Value.ref tp from r2)
    cases (show u1 = Value.ref a from r1)
    obtain ⟨hget, _⟩ := I.pin (a, oe) (List.mem_append.mpr (.inl List.mem_cons_self))
    obtain ⟨vs, hv⟩ := hf
    have J : PySem.W.InstAt s.heap a oe D none := by
      obtain ⟨oc, od, oda, osl⟩ := oe
      obtain ⟨h1, h2⟩ := hz
      dsimp only at h1 h2 hv
      subst h1 h2 hv
      exact ⟨hget, rfl, rfl, trivial⟩
    obtain ⟨_, its, rv, o, h1, h2, n, h3⟩ := (show ObjOk X.prog X.w H s.heap tp (.tup cs) from I.hok tp _ hT)
    have e3 := ClsV.all k rv
    subst e3
    obtain ⟨oc, od, dt, sl⟩ := o
    simp only at h2 h3
    subst h2 h3
    exact PySem.W.kia_tup (PySem.W.handS_kitx_exc C.hg C.hk C.hs C.hd C.ha C.hn C.ht C.hm) I.kIn J h1 e (fun z => nomatch z) fun tk => ⟨.bl b, H, I.kept (t' := tk) fun _ _ z => z, rfl, q⟩
/-- a def that may raise -/
structure FdX (P : Program) (w : World) (K : PySem.W.Frag) (mg : Str → Option Value) (base : Heap) (x : Str) (ps : List Str) (k : Nat) (sp : Sp) : Prop where
  ex : ∃ (f : Addr) (fd : FuncData), FnOk P w K mg base (L2.CX P w) k f fd ps sp ∧ mg x = some (.ref f) ∧ PySem.W.keepIn K (.ref f) = true ∧ Binds K fd ps []
theorem pe_fnX {X : Cx} {x : Str} {ps : List Str} {k : Nat} {sp : Sp} {e : Expr} {es : List Expr} {t : TA} {p pos : Pos} {W : WX} (F : FdX X.prog X.w X.K X.mg X.base x ps k sp) (hr : Room k X.A) (hg : Gl X x) (tk : Takes X W) (ha : PA X (e :: es) t)
    (hdb : (x == ("__debug__" : Str)) = false := by decide) (he : starEach (e :: es) X.env = (false, eval e X.env) :: starEach es X.env := by rfl) (hpl : (backTo pos (starEach es X.env)).any (·.1) = false := by rfl) :
    PE X (.Call (.Name x p) (e :: es) [] pos) (tCallS sp (WE W) t) := by
  obtain ⟨f, fd, G, m, kp, b⟩ := F.ex
  exact pe_callS G hr hg m kp b (fun σ => passAt tk σ) ha hdb he hpl
theorem kit_sub {K : PySem.W.Frag} {mg : Str → Option Value} {x y : Str} {C D : Addr} {b : Bool} (hC : ExcX K mg x C) (hD : ExcX K mg y D) (hs : PySem.W.subIn K (.ref C) (.ref D) = some b) : PySem.W.kitOne K (.ref C) (.ref D) = some b := by
  by_cases e : C = D
  · subst e
    rw [hC.self] at hs
    cases hs
    show (if (Value.ref C == Value.ref C) = true then some true else _) = some true
    rw [if_pos (beq_self_eq_true _)]
  · exact kit_ref hD.ic hD.ty e hs
theorem kit_two {K : PySem.W.Frag} {t c1 c2 : Value} (h1 : PySem.W.kitOne K t c1 = some false) (h2 : PySem.W.kitOne K t c2 = some false) : PySem.W.kitAny K t [c1, c2] = some false := by
  unfold PySem.W.kitAny
  rw [h1]
  show PySem.W.kitAny K t [c2] = some false
  unfold PySem.W.kitAny
  rw [h2]
  rfl
def isTE (K : PySem.W.Frag) (a : Addr) (cls : Value) (d : Option Addr) (i : Nat) (te : TE) : TE := tCB (rIsEx K a cls d) (tCons (tVar i) (tCons te tNil))
/-- isinstance(e, A) and isinstance(e, ValueError) and not isinstance(e, (B, C)) -/
def isAll (K : PySem.W.Frag) (i : Nat) (A : V) (B : TE) (a : Addr) (cls : Value) (d : Option Addr) : TE := tAndV (isTE K a cls d i (tC A)) (tAndV (isTE K a cls d i (tC (.ty "ValueError"))) (tNotV (isTE K a cls d i B)))
theorem isAll_yes {K : PySem.W.Frag} {mg : Str → Option Value} {nC nL n1 n2 : Str} {i : Nat} {a C L D1 D2 : Addr} {σ : L2.St} {H : Hp} {Q : VK} (XC : ExcX K mg nC C) (XL : ExcX K mg nL L) (X1 : ExcX K mg n1 D1) (X2 : ExcX K mg n2 D2)
    (hL : PySem.W.subIn K (.ref C) (.ref L) = some true) (h1 : PySem.W.subIn K (.ref C) (.ref D1) = some false) (h2 : PySem.W.subIn K (.ref C) (.ref D2) = some false) (hi : σ[i]? = some (some (.ref a)))
    (q : ∀ H', Same H H' → Q (.bl true) H') : isAll K i (.ref L) (tTup (tCons (tC (.ref D1)) (tCons (tC (.ref D2)) tNil))) a (.ref C) none σ H Q :=
  ⟨_, hi, C, true, rfl, rfl, XC.is, ⟨_, rfl, iteT ⟨_, hi, C, true, rfl, rfl, XC.is, ⟨_, rfl, iteT ⟨_, hi, szc 2, fun tp np => ⟨C, false, rfl, rfl, XC.is, ⟨_, rfl, q _ (same_new np)⟩, .inr ⟨tp, _, _, rfl, upd_same, .cons (.own _) (.cons (.own _) .nil), kit_two (kit_sub XC X1 h1) (kit_sub XC X2 h2)⟩⟩⟩⟩, .inl ⟨_, _, rfl, .ty _, kit_val XC.val⟩⟩⟩, .inl ⟨_, _, rfl, .own _, kit_sub XC XL hL⟩⟩
/-- isinstance(e, A) and isinstance(e, ValueError) and not isinstance(e, B) -/
theorem isAll_yes1 {K : PySem.W.Frag} {mg : Str → Option Value} {nC nL n1 : Str} {i : Nat} {a C L D1 : Addr} {σ : L2.St} {H : Hp} {Q : VK} (XC : ExcX K mg nC C) (XL : ExcX K mg nL L) (X1 : ExcX K mg n1 D1)
    (hL : PySem.W.subIn K (.ref C) (.ref L) = some true) (h1 : PySem.W.subIn K (.ref C) (.ref D1) = some false) (hi : σ[i]? = some (some (.ref a)))
    (q : Q (.bl true) H) : isAll K i (.ref L) (tC (.ref D1)) a (.ref C) none σ H Q :=
  ⟨_, hi, C, true, rfl, rfl, XC.is, ⟨_, rfl, iteT ⟨_, hi, C, true, rfl, rfl, XC.is, ⟨_, rfl, iteT ⟨_, hi, C, false, rfl, rfl, XC.is, ⟨_, rfl, q⟩, .inl ⟨_, _, rfl, .own _, kit_sub XC X1 h1⟩⟩⟩, .inl ⟨_, _, rfl, .ty _, kit_val XC.val⟩⟩⟩, .inl ⟨_, _, rfl, .own _, kit_sub XC XL hL⟩⟩
structure Exs (K : PySem.W.Frag) (mg : Str → Option Value) (CL CO CN CB : Addr) : Prop where
  L : ExcX K mg "LegionError" CL
  O : ExcX K mg "OutOfRange" CO
  N : ExcX K mg "NotPossible" CN
  B : ExcX K mg "BadMachine" CB
  oL : PySem.W.subIn K (.ref CO) (.ref CL) = some true
  oN : PySem.W.subIn K (.ref CO) (.ref CN) = some false
  oB : PySem.W.subIn K (.ref CO) (.ref CB) = some false
  nL : PySem.W.subIn K (.ref CN) (.ref CL) = some true
  nO : PySem.W.subIn K (.ref CN) (.ref CO) = some false
  nB : PySem.W.subIn K (.ref CN) (.ref CB) = some false
section
variable {P : Program} {w : World} {K : PySem.W.Frag} {mg : Str → Option Value} {base : Heap}
theorem nnO {cs : List (Option Int)} (h : ∀ c ∈ cs, ∀ i, c = some i → 0 ≤ i) {k : Nat} (hk : k < cs.length) {i : Int} (e : cs.getD k none = some i) : 0 ≤ i := h _ (gdO_mem hk) i e
theorem canW_no {m : MvT} {s : Int} {cs : List (Option Int)} (h : s ≠ (m.st : Int)) : m.canW s cs = false := by
  unfold MvT.canW
  rw [decide_eq_false (fun e => h e.symm)]
  rfl
theorem scal_oV : ∀ (m : Option Int) (z : Int), scal (oV m) (V.int z) = true
  | none, _ => rfl
  | some _, _ => rfl
abbrev s_law_wide_after : Stmt := topS 20
theorem sc_law_wide_after : FnScope ["situation", "move", "counts", "place"] ["situation", "move"] (defScope s_law_wide_after) := ⟨rfl, rfl, rfl, by decide +kernel, rfl, by decide +kernel, by decide +kernel⟩
-- _law_wide_after slots: situation=0 move=1 counts=2 place=3 globals: list
def spLWA (K : PySem.W.Frag) : Sp := fun vs H Q _ => ∃ (x y : V) (s : Int) (cs : List (Option Int)) (m : MvT) (S : Nat), vs = [x, y] ∧ WSit K H x s cs ∧ Dp K H y m.data ∧ m.Fit S cs.length ∧ (∀ c ∈ cs, ∀ i, c = some i → 0 ≤ i) ∧
  (m.canW s cs = false → ∀ H', Same H H' → Q .non H') ∧ (m.canW s cs = true → ∀ H' p, Same H H' → NewW H H' p m.ns (m.aftW cs) → Q (.ref p) H')
theorem fd_law_wide_after {f : Addr} {fd : FuncData} (F : Fun K "_law_wide_after" "_law_wide_after" s_law_wide_after f fd) (m : mg "_law_wide_after" = some (.ref f)) (B : Bt mg) : Fd P w K mg base "_law_wide_after" ["situation", "move"] 1 (spLWA K) := by
  refine ⟨f, fd, F.ok sc_law_wide_after (fun vs H Q E h => ?_) (fun cdv A outer s H vs Q E hr h => ?_), m, F.kp, F.binds (ps := ["situation", "move"]) fun _ _ _ _ _ _ us hl => match us, hl with | [_, _], _ => rfl⟩
  · obtain ⟨x, y, s, cs, m, S, rfl, _⟩ := h
    rfl
  obtain ⟨x, y, s, cs, mv, S, rfl, ⟨a, ca, rfl, ha, hca⟩, hd, hf, nn, q1, q2⟩ := h
  obtain ⟨b, sa, xs, rfl, hb, _⟩ := dp_mv hd
  refine ⟨_, (pss_cons (ps_set (i := 2) sc_law_wide_after.nd rfl (Or.inl rfl) (pe_callTy (cList K) (by rfl) B.list (by decide +kernel) (pa_cons (pe_ix (ixT K) (pv 0) pe_int (fun _ _ => rfl)) pa_nil)))
 (pss_cons (ps_if (PW.pt (pw_or (pt_cmpR op_ne (pe_ix (ixT K) (pv 0) pe_int (fun _ _ => rfl)) (pe_ix (ixT K) (pv 1) pe_int (fun _ _ => rfl)) (nomark _)) (pw_or1 (pt_cmpR op_eq (pe_ix (ixL K) (pv 2) (pe_ix (ixT K) (pv 1) pe_int (fun _ _ => rfl)) (fun _ _ => rfl)) pe_int (nomark _)))))
 (pss_one (ps_ret pe_non))
 pss_nil)
 (C8.pss_cut (ps_if (pt_cmpR op_notN (pe_ix (ixL K) (pv 2) (pe_ix (ixT K) (pv 1) pe_int (fun _ _ => rfl)) (fun _ _ => rfl)) pe_non (nomark _))
 (pss_one (ps_asg (pe_op op_sub (pe_ix (ixL K) (pv 2) (pe_ix (ixT K) (pv 1) pe_int (fun _ _ => rfl)) (fun _ _ => rfl)) pe_int) (pg_sub (pv 2) (pe_ix (ixT K) (pv 1) pe_int (fun _ _ => rfl)) set_list)))
 pss_nil)
 (pss_cons (ps_for PassesOwn.never rfl (piL K (pe_lst (pa_cons (pe_ix (ixT K) (pv 1) pe_int (fun _ _ => rfl)) (pa_cons (pe_ix (ixT K) (pv 1) pe_int (fun _ _ => rfl)) pa_nil)))) (pg_name (i := 3) sc_law_wide_after.nd rfl (Or.inl rfl))
 (pss_one (ps_if (PW.pt (pw_and (pt_cmpR op_notN (pv 3) pe_non (nomark _)) (pw_and1 (pt_cmpR op_notN (pe_ix (ixL K) (pv 2) (pv 3) (fun _ _ => rfl)) pe_non (nomark _)))))
 (pss_one (ps_asg (pe_op op_add (pe_ix (ixL K) (pv 2) (pv 3) (fun _ _ => rfl)) pe_int) (pg_sub (pv 2) (pv 3) set_list)))
 pss_nil)))
 (pss_one (ps_ret (pe_tup (pa_cons (pe_ix (ixT K) (pv 1) pe_int (fun _ _ => rfl)) (pa_cons (pv 2) pa_nil))))))))), ?_⟩
  refine ⟨_, rfl, _, _, _, _, rfl, rfl, ha, atI_nat (j := 1) rfl, ca, _, rfl, .inl hca, fun l nl => ?_⟩
  dsimp only [gName]
  have s1 := same_new (o := HO.lst (cs.map oV)) nl
  have el : (upd H l (.lst (cs.map oV))) l = some (.lst (cs.map oV)) := upd_same
  generalize upd H l (.lst (cs.map oV)) = H1 at s1 el ⊢
  have ha1 := Same.seqT s1 ha
  have hb1 := Same.seqT s1 hb
  have ac := at_gdO (ds := cs) (i := (mv.pl : Int)) rfl hf.pl
  refine ⟨_, rfl, _, _, _, _, rfl, rfl, ha1, atI_nat (j := 0) rfl, _, rfl, _, _, _, _, rfl, rfl, hb1, atI_nat (j := 0) rfl, rfl, _, rfl, ?_⟩
  rw [int_eqE]
  by_cases est : s = (mv.st : Int)
  · rw [decide_eq_true est]
    refine iteF ?_
    refine ⟨_, rfl, _, rfl, _, _, _, _, rfl, rfl, hb1, atI_nat (j := 1) rfl, _, _, _, _, rfl, rfl, sq el, ac, scal_oV _ _, _, rfl, ?_⟩
    have cw : mv.canW s cs = posO (cs.getD mv.pl none) := by unfold MvT.canW; rw [decide_eq_true est.symm, Bool.true_and]
    rw [cw] at q1 q2
    cases e0 : decide (oV (cs.getD mv.pl none) = V.int 0) with
    | true =>
      refine iteT (q1 ?_ _ s1)
      have := of_decide_eq_true e0
      cases e : cs.getD mv.pl none with
      | none => rw [e] at this; cases this
      | some c => rw [e] at this; cases this; rfl
    | false =>
      refine iteF ?_
      have hpos : posO (cs.getD mv.pl none) = true := by
        cases e : cs.getD mv.pl none with
        | none => rfl
        | some c =>
          have h0 := nnO nn hf.pl e
          have : c ≠ 0 := fun z => by rw [e, z] at e0; cases e0
          exact decide_eq_true (by omega)
      replace q2 := q2 hpos
      clear q1 cw e0 hpos
      refine ⟨fun σ' H' => σ' = [some (.ref a), some (.ref b), some (.ref l), none] ∧ Same (Ho l H1) (Ho l H') ∧ Same H H' ∧ H' l = some (.lst ((chgO cs (some mv.pl, -1)).map oV)), ?_, ?_⟩
      · refine ⟨_, rfl, _, rfl, _, _, _, _, rfl, rfl, hb1, atI_nat (j := 1) rfl, _, _, _, _, rfl, rfl, sq el, ac, rfl, _, rfl, ?_⟩
        rw [oV_non]
        cases e : cs.getD mv.pl none with
        | none => exact iteF ⟨rfl, Same.refl _, s1, by show H1 l = some (.lst ((bumpO cs mv.pl (-1)).map oV)); rw [bumpO_none hf.pl e]; exact el⟩
        | some c =>
          refine iteT ?_
          rw [e] at ac
          refine ⟨_, rfl, _, rfl, _, _, _, _, rfl, rfl, hb1, atI_nat (j := 1) rfl, _, _, _, _, rfl, rfl, sq el, ac, _, _, rfl, rfl, _, rfl, _, rfl, _, _, _, _, rfl, rfl, hb1, atI_nat (j := 1) rfl, _, _, _, _, rfl, rfl, el, ixN_nat (by rw [List.length_map]; exact hf.pl), ?_⟩
          rw [set_oV]
          refine ⟨rfl, ho_mut, Same.mut s1 nl, ?_⟩
          show _ = some (HO.lst ((bumpO cs mv.pl (-1)).map oV))
          unfold bumpO
          rw [e]
          exact upd_same
      rintro σ' H2 ⟨rfl, sh2, sm2, el2⟩
      have ne : ∀ {t : Addr} {u : HO}, H1 t = some u → t ≠ l → H2 t = some u := fun h hn => ho_out _ _ (sh2 _ _ (by unfold Ho; rw [if_neg hn]; exact h))
      have hb2 := Same.seqT sm2 hb
      have ln2 : (chgO cs (some mv.pl, -1)).length = cs.length := chgO_len _ _
      have aft : mv.aftW cs = [(some mv.np, 1), (mv.sd, 1)].foldl chgO (chgO cs (some mv.pl, -1)) := rfl
      rw [aft] at q2
      generalize chgO cs (some mv.pl, -1) = c2 at el2 ln2 q2
      clear ac nn aft ne sh2
      refine ⟨_, rfl, _, _, _, _, rfl, rfl, hb2, atI_nat (j := 3) rfl, _, rfl, _, _, _, _, rfl, rfl, hb2, atI_nat (j := 4) rfl, szc 2, fun t nt => ?_⟩
      have et : (upd H2 t (.lst [nV mv.np, sdV mv.sd])) t = some (.lst [nV mv.np, sdV mv.sd]) := upd_same
      have tl : t ≠ l := fun e => by rw [e, el2] at nt; cases nt
      have el3 := (same_new (o := HO.lst [nV mv.np, sdV mv.sd]) nt) _ _ el2
      have sm3 := sm2.trans (same_new (o := HO.lst [nV mv.np, sdV mv.sd]) nt)
      generalize upd H2 t (.lst [nV mv.np, sdV mv.sd]) = H3 at et el3 sm3 ⊢
      have tAt : ∀ (i : Nat) (x : V), [nV mv.np, sdV mv.sd][i]? = some x → ∃ o : Option Nat, x = sdV o ∧ [(some mv.np, (1 : Int)), (mv.sd, 1)][i]? = some (o, 1) ∧ ∀ k, o = some k → k < cs.length := fun i x h => by
        match i, h with
        | 0, h => cases h; exact ⟨some mv.np, rfl, rfl, fun k e => by cases e; exact hf.np⟩
        | 1, h => cases h; exact ⟨mv.sd, rfl, rfl, hf.sd⟩
      refine ⟨t, rfl, ⟨_, sq et⟩, for_list (xs := [nV mv.np, sdV mv.sd]) (fun i σ' H' => ∃ y3 : Option V, σ' = [some (.ref a), some (.ref b), some (.ref l), y3] ∧ Same (Ho l H3) (Ho l H') ∧ Same H H' ∧ H' l = some (.lst ((([(some mv.np, (1 : Int)), (mv.sd, 1)].take i).foldl chgO c2).map oV))) ⟨none, rfl, Same.refl _, sm3, el3⟩ ?_ ?_ ?_⟩
      · rintro i σ' H' _ ⟨y3, rfl, sh, _, _⟩
        refine sq (ho_out _ _ (sh _ _ ?_))
        unfold Ho
        rw [if_neg tl]
        exact et
      · rintro i x σ' H' hx ⟨y3, rfl, sh, sm, eL⟩
        obtain ⟨o, rfl, hs, ho⟩ := tAt i x hx
        rw [take_snoc hs, List.foldl_append]
        have ln : (([(some mv.np, (1 : Int)), (mv.sd, 1)].take i).foldl chgO c2).length = cs.length := (chgs_len _ _).trans ln2
        generalize ([(some mv.np, (1 : Int)), (mv.sd, 1)].take i).foldl chgO c2 = c1 at eL ln ⊢
        dsimp only [gName]
        refine ⟨_, rfl, rfl, _, rfl, ?_⟩
        cases o with
        | none => exact iteF (iteF ⟨_, rfl, sh, sm, eL⟩)
        | some k =>
          have hk : k < c1.length := by rw [ln]; exact ho k rfl
          have ak := at_gdO (ds := c1) (i := (k : Int)) rfl hk
          refine iteT ⟨_, rfl, _, rfl, _, _, _, _, rfl, rfl, sq eL, ak, rfl, _, rfl, ?_⟩
          rw [oV_non]
          cases e : c1.getD k none with
          | none => exact iteF ⟨_, rfl, sh, sm, by show H' l = some (.lst ((bumpO c1 k 1).map oV)); rw [bumpO_none hk e]; exact eL⟩
          | some c =>
            refine iteT ?_
            rw [e] at ak
            refine ⟨_, rfl, _, rfl, _, _, _, _, rfl, rfl, sq eL, ak, _, _, rfl, rfl, _, rfl, _, rfl, _, _, _, _, rfl, rfl, eL, ixN_nat (by rw [List.length_map]; exact hk), ?_⟩
            rw [set_oV]
            refine ⟨_, rfl, sh.trans ho_mut, Same.mut sm nl, ?_⟩
            show _ = some (HO.lst ((bumpO c1 k 1).map oV))
            unfold bumpO
            rw [e]
            exact upd_same
      · rintro σ' H' ⟨y3, rfl, sh, sm, eL⟩
        refine ⟨_, rfl, _, _, _, _, rfl, rfl, Same.seqT sm hb, atI_nat (j := 2) rfl, _, rfl, szc 2, fun p np => ?_⟩
        have pl : p ≠ l := fun e => by rw [e, eL] at np; cases np
        exact q2 _ p (sm.trans (same_new np)) ⟨l, sm.free np, nl, Ne.symm pl, upd_same, by rw [upd_ne (Ne.symm pl)]; exact eL⟩
  · rw [decide_eq_false est]
    exact iteT (q1 (canW_no est) _ s1)
end
section
variable {P : Program} {w : World} {K : PySem.W.Frag} {mg : Str → Option Value} {base : Heap}
abbrev Wn := Int × List (Option Int)
def wD (r : Wn) : PyData := wsitD r.1 r.2
def WOk (S : Nat) (N : Nat) (top : Nat) (r : Wn) : Prop := r.2.length = N ∧ 0 ≤ r.1 ∧ r.1 < (S : Int) ∧ ∀ c ∈ r.2, ∀ i, c = some i → 0 ≤ i ∧ i ≤ (top : Int)
abbrev s_law_wide_some : Stmt := topS 21
theorem sc_law_wide_some : FnScope ["cell", "states", "places", "many", "most", "rows", "draws", "k", "part", "counts", "j"] ["cell", "states", "places", "many", "most"] (defScope s_law_wide_some) := ⟨rfl, rfl, rfl, by decide +kernel, rfl, by decide +kernel, by decide +kernel⟩
-- _law_wide_some slots: cell=0 states=1 places=2 many=3 most=4(cell) rows=5 draws=6 k=7 part=8(cell) counts=9 j=10(None) globals: _law_digits range
def spWSome (K : PySem.W.Frag) : Sp := fun vs H Q _ => ∃ (c : Int) (S N m top : Nat), vs = [.int c, nV S, nV N, nV m, nV top] ∧ 0 ≤ c ∧ 0 < S ∧ N ≤ 50 ∧ m ≤ 50 ∧ top ≤ 50 ∧
  ∀ (H' : Hp) (p : Addr) (xs : List V) (rs : List Wn), Same H H' → H p = none → H' p = some (.lst xs) → DpAll K (Ho p H') xs (rs.map wD) → rs.length = m → (∀ r ∈ rs, WOk S N top r) → Q (.ref p) H'
set_option maxHeartbeats 2000000 in
theorem fd_law_wide_some {f : Addr} {fd : FuncData} (F : Fun K "_law_wide_some" "_law_wide_some" s_law_wide_some f fd) (m : mg "_law_wide_some" = some (.ref f)) (B : Bt mg) (D_law_digits : Fd P w K mg base "_law_digits" ["cell", "base", "most"] 1 (spDigits K)) : Fd P w K mg base "_law_wide_some" ["cell", "states", "places", "many", "most"] 2 (spWSome K) := by
  refine ⟨f, fd, F.ok sc_law_wide_some (fun vs H Q E h => ?_) (fun cdv A outer s H vs Q E hr h => ?_), m, F.kp, F.binds (ps := ["cell", "states", "places", "many", "most"]) fun _ _ _ _ _ _ us hl => match us, hl with | [_, _, _, _, _], _ => rfl⟩
  · obtain ⟨c, S, N, m, top, rfl, _⟩ := h
    rfl
  obtain ⟨c, S, N, m, top, rfl, hc, hS, hN, hm, htop, q⟩ := h
  refine ⟨_, (pss_cons (ps_set (i := 5) sc_law_wide_some.nd rfl (Or.inl rfl) (pe_lst pa_nil))
 (pss_cons (ps_set (i := 6) sc_law_wide_some.nd rfl (Or.inl rfl) (pe_fn D_law_digits (hr.mono (by decide)) rfl (pa_cons (pv 0) (pa_cons pe_int (pa_cons (pe_op op_mul (pv 3) (pe_op op_add (pv 2) pe_int)) pa_nil)))))
 (pss_cons (ps_for PassesOwn.never rfl (pi_range1 rfl B.range (pa_cons (pv 3) pa_nil)) (pg_name (i := 7) sc_law_wide_some.nd rfl (Or.inl rfl))
 (pss_cons (ps_set (i := 8) sc_law_wide_some.nd rfl (Or.inr rfl) (pe_slice (slL K) (pv 6) (po_some (pe_op op_mul (pv 7) (pe_op op_add (pv 2) pe_int))) (po_some (pe_op op_mul (pe_op op_add (pv 7) pe_int) (pe_op op_add (pv 2) pe_int)))))
 (pss_cons (ps_setLc (i := 9) (own := [("j", 10)]) (g := gName 10) (by rfl) sc_law_wide_some.nd rfl rfl (sw_true rfl rfl rfl (by decide +kernel)) (pi_range1 rfl B.range (pa_cons (pv 2) pa_nil)) (blkOk_by (own := [("j", 10)]) (N := ["cell", "states", "places", "many", "most", "rows", "draws", "k", "part", "counts", "j"]) (sc := (defScope s_law_wide_some)) (by decide +kernel)) (fun _ _ _ _ _ => (pg_name (i := 10) sc_law_wide_some.nd rfl (Or.inl rfl))) (fun _ _ _ _ _ => pts_nil) (fun _ _ _ _ _ => (pe_ifExp (pt_cmpR op_eq (pe_op op_mod (pe_ix (ixL K) (pv 8) (pv 10) (fun _ _ => rfl)) pe_int) pe_int (nomark _)) pe_non (pe_op op_mod (pe_op op_fdiv (pe_ix (ixL K) (pv 8) (pv 10) (fun _ _ => rfl)) pe_int) (pe_op op_add (pv 4) pe_int)))))
 (pss_one (ps_expr (peBm K PySem.F.plainAttrs_list PySem.F.slot_list_append PySem.F.type_list_append mt_append (pv 5) (pa_cons (pe_tup (pa_cons (pe_op op_mod (pe_ix (ixL K) (pv 8) (pv 2) (fun _ _ => rfl)) (pv 1)) (pa_cons (pv 9) pa_nil))) pa_nil)))))))
 (pss_one (ps_ret (pv 5)))))), ?_⟩
  have emul : (m : Int) * ((N : Int) + 1) = ((m * (N + 1) : Nat) : Int) := by push_cast; rfl
  have bmul : m * (N + 1) ≤ 50 * 51 := Nat.mul_le_mul hm (by omega)
  refine ⟨sz (by decide), fun o no => ?_⟩
  dsimp only [gName]
  refine ⟨_, rfl, _, rfl, _, rfl, _, _, rfl, rfl, _, _, rfl, rfl, .inl ⟨by omega, by omega⟩, c, 27720, m * (N + 1), congrArg (fun z => [V.int c, V.int 27720, V.int z]) emul, hc, by decide, by decide, by omega, ?_⟩
  intro Hd pd ds s1 npd epd ld hd
  have so := (same_new (o := HO.lst []) no).trans s1
  have eo0 := s1 _ _ (upd_same (H := H) (a := o) (o := HO.lst []))
  have pdo : pd ≠ o := fun e => by rw [e, upd_same] at npd; cases npd
  have epd' : Ho o Hd pd = some (.lst (ds.map V.int)) := by unfold Ho; rw [if_neg pdo]; exact epd
  clear s1 npd
  dsimp only [gName]
  refine ⟨_, rfl, m, rfl, by omega, by omega, for_range (lo := 0) (n := m) (fun i σ' H' => ∃ (y7 y8 y9 : Option V) (xs : List V) (rs : List Wn), σ' = [some (.int c), some (nV S), some (nV N), some (nV m), some (nV top), some (.ref o), some (.ref pd), y7, y8, y9, none] ∧ Same H H' ∧ Same (Ho o Hd) (Ho o H') ∧ H' o = some (.lst xs) ∧ DpAll K (Ho o H') xs (rs.map wD) ∧ rs.length = i ∧ ∀ r ∈ rs, WOk S N top r) ⟨none, none, none, [], [], rfl, so, Same.refl _, eo0, .nil, rfl, fun b hb => nomatch hb⟩ ?_ ?_⟩
  · rintro k σ' H' hk ⟨y7, y8, y9, xs, rs, rfl, sx, sh, eo, dx, bl, ok⟩
    have hz : (0 : Int) + (k : Int) = (k : Int) := by omega
    have e1 : ((0 : Int) + (k : Int)) * ((N : Int) + 1) = ((k * (N + 1) : Nat) : Int) := by rw [hz]; push_cast; rfl
    have e2 : ((0 : Int) + (k : Int) + 1) * ((N : Int) + 1) = ((k * (N + 1) + (N + 1) : Nat) : Int) := by rw [hz]; push_cast; rw [Int.add_mul, Int.one_mul]
    have b2 : k * (N + 1) + (N + 1) ≤ ds.length := by
      rw [ld, ← Nat.succ_mul]
      exact Nat.mul_le_mul_right _ hk
    have epk := ho_out _ _ (sh _ _ epd')
    dsimp only [gName]
    refine ⟨_, rfl, _, rfl, _, rfl, _, _, rfl, rfl, _, _, rfl, rfl, .inl ⟨by omega, by omega⟩, _, rfl, _, rfl, _, _, rfl, rfl, _, rfl, _, _, rfl, rfl, _, _, rfl, rfl, .inl ⟨by omega, by omega⟩, _, rfl, pd, _, rfl, sq epk, fun q1 m1 => ?_⟩
    dsimp only [gName]
    have ec := cut_ints (ds := ds) b2 e1 e2
    have lps : ((ds.drop (k * (N + 1))).take (N + 1)).length = N + 1 := by rw [List.length_take, List.length_drop]; omega
    have ep1 : (upd H' q1 (.lst (cutV (ds.map V.int) (some (((0 : Int) + (k : Int)) * ((N : Int) + 1))) (some (((0 : Int) + (k : Int) + 1) * ((N : Int) + 1)))))) q1 = some (.lst (((ds.drop (k * (N + 1))).take (N + 1)).map V.int)) := by rw [upd_same, ec]
    have s12 : Same H' (upd H' q1 (.lst (cutV (ds.map V.int) (some (((0 : Int) + (k : Int)) * ((N : Int) + 1))) (some (((0 : Int) + (k : Int) + 1) * ((N : Int) + 1)))))) := same_new m1
    generalize upd H' q1 (.lst (cutV (ds.map V.int) (some (((0 : Int) + (k : Int)) * ((N : Int) + 1))) (some (((0 : Int) + (k : Int) + 1) * ((N : Int) + 1))))) = H2 at ep1 s12 ⊢
    generalize (ds.drop (k * (N + 1))).take (N + 1) = ps at lps ep1
    have eo2 := s12 _ _ eo
    refine ⟨_, rfl, N, rfl, by omega, by omega, fun D nD => ?_⟩
    refine lc_valR (K := K) (n := N) (by omega) nD (fun i => oV (if ps.getD i 0 % 5 = 0 then none else some (ps.getD i 0 / 5 % ((top : Int) + 1)))) (fun _ => rfl) (fun j Hx Q' hj sj q' => ?_) fun H3 s3 e3 => ?_
    · have hz : (0 : Int) + (j : Int) = (j : Int) := by omega
      refine ⟨_, rfl, _, rfl, _, _, _, _, rfl, rfl, sj.seq (sq ep1), at_gd hz (by omega), _, _, rfl, rfl, (by show (0 : Int) < 5; decide), rfl, _, rfl, ite2 (fun e => ?_) (fun e => ?_)⟩
      · have e1 : ps.getD j 0 % 5 = 0 := by injection of_decide_eq_true e
        have := q' _ (Same.refl _)
        rw [if_pos e1] at this
        exact this
      · have e1 : ¬ ps.getD j 0 % 5 = 0 := fun z => e (decide_eq_true (congrArg V.int z))
        refine ⟨_, rfl, _, rfl, _, _, _, _, rfl, rfl, sj.seq (sq ep1), at_gd hz (by omega), _, _, rfl, rfl, ⟨by decide, by decide⟩, _, rfl, _, _, rfl, rfl, _, _, rfl, rfl, (show (0 : Int) < (top : Int) + 1 by omega), ?_⟩
        have := q' _ (Same.refl _)
        rw [if_neg e1] at this
        exact this
    replace e3 : H3 D = some (.lst (((List.range N).map fun i => if ps.getD i 0 % 5 = 0 then none else some (ps.getD i 0 / 5 % ((top : Int) + 1))).map oV)) := by
      rw [List.map_map]
      exact e3
    have lcs : ((List.range N).map fun i => if ps.getD i 0 % 5 = 0 then none else some (ps.getD i 0 / 5 % ((top : Int) + 1))).length = N := by rw [List.length_map, List.length_range]
    have hcs : ∀ c ∈ (List.range N).map fun i => if ps.getD i 0 % 5 = 0 then none else some (ps.getD i 0 / 5 % ((top : Int) + 1)), ∀ i, c = some i → 0 ≤ i ∧ i ≤ (top : Int) := fun c hc i e => by
      obtain ⟨j, _, rfl⟩ := List.mem_map.mp hc
      split at e
      · cases e
      · have e' := Option.some.inj e
        have := mod_in (ps.getD j 0 / 5) (show (0 : Int) < (top : Int) + 1 by omega)
        omega
    generalize ((List.range N).map fun i => if ps.getD i 0 % 5 = 0 then none else some (ps.getD i 0 / 5 % ((top : Int) + 1))) = cs at e3 lcs hcs
    have eo3 := s3 _ _ eo2
    have ms := mod_in (ps.getD N 0) (show (0 : Int) < (S : Int) by omega)
    dsimp only [gName]
    refine ⟨_, rfl, .inl ⟨rfl, xs, sq eo3⟩, ?_⟩
    refine ⟨_, rfl, _, rfl, _, _, _, _, rfl, rfl, sq (s3 _ _ ep1), at_gd (j := N) rfl (by omega), _, rfl, _, _, rfl, rfl, (show (0 : Int) < (S : Int) by omega), _, rfl, szc 2, fun t nt => ?_⟩
    have eo4 := (same_new (o := HO.tup [V.int (ps.getD N 0 % (S : Int)), V.ref D]) nt) _ _ eo3
    have xl := dpa_map_len dx
    refine ⟨o, xs, _, rfl, rfl, eo4, szl (by omega), ?_⟩
    have nD' : H' D = none := s12.free nD
    have Do : D ≠ o := fun e => by rw [e, eo] at nD'; cases nD'
    have s34 := s12.trans (s3.trans (same_new (o := HO.tup [V.int (ps.getD N 0 % (S : Int)), V.ref D]) nt))
    have shx : Same (Ho o H') (Ho o (upd (upd H3 t (.tup [V.int (ps.getD N 0 % (S : Int)), V.ref D])) o (.lst (xs ++ [.ref t])))) := (ho_same s34).trans ho_mut
    have dD : Dp K (Ho o H3) (.ref D) (.list (cs.map oD)) := .lst (sq (by unfold Ho; rw [if_neg Do]; exact e3)) (dpa_os cs)
    have dt : Dp K (Ho o (upd H3 t (.tup [V.int (ps.getD N 0 % (S : Int)), V.ref D]))) (.ref t) (wD (ps.getD N 0 % (S : Int), cs)) := dpo_newT eo3 nt (.cons (.int _) (.cons dD .nil))
    refine ⟨_, _, _, xs ++ [.ref t], rs ++ [(ps.getD N 0 % (S : Int), cs)], rfl, Same.mut (sx.trans s34) no, sh.trans shx, upd_same, ?_, by rw [List.length_append, bl]; rfl, ?_⟩
    · rw [List.map_append]
      exact dpa_app (dpAll_mono shx dx) (.cons (dp_mono ho_mut dt) .nil)
    · intro r hr
      rcases List.mem_append.mp hr with h | h
      · exact ok r h
      · rw [List.mem_singleton.mp h]; exact ⟨lcs, ms.1, ms.2, hcs⟩
  · rintro σ' H' ⟨y7, y8, y9, xs, rs, rfl, sx, sh, eo, dx, bl, ok⟩
    exact ⟨_, rfl, q _ o xs rs sx no eo dx bl ok⟩
end
/-! ### closed lists of wide situations -/
def cvd (rs : List Wn) (x : Wn) : Bool := rs.any fun r => covW r.1 r.2 x.1 x.2
def begW (M : MT) : Wn := ((M.sst : Int), (M.cnts.map some).set M.crew none)
def succW (M : MT) (r : Wn) : List Wn := (M.moves.filter fun m => m.canW r.1 r.2).map fun m => ((m.ns : Int), m.aftW r.2)
def closedB (M : MT) (rs : List Wn) : Bool := cvd rs (begW M) && rs.all fun r => (succW M r).all (cvd rs)
theorem begW_len (M : MT) : (begW M).2.length = M.cnts.length := by
  show ((M.cnts.map some).set M.crew none).length = _
  rw [List.length_set, List.length_map]
theorem cvd_snoc {rs : List Wn} {i : Nat} {r x : Wn} (h : rs[i]? = some r) : cvd (rs.take (i + 1)) x = (cvd (rs.take i) x || covW r.1 r.2 x.1 x.2) := by
  unfold cvd
  rw [take_snoc h, List.any_append]
  simp
theorem cvd_at {rs : List Wn} {i : Nat} {r x : Wn} (h : rs[i]? = some r) (e : covW r.1 r.2 x.1 x.2 = true) : cvd rs x = true := List.any_eq_true.mpr ⟨r, List.mem_of_getElem? h, e⟩
section
variable {P : Program} {w : World} {K : PySem.W.Frag} {mg : Str → Option Value} {base : Heap}
theorem map_oV_some (cs : List Int) : (cs.map some).map oV = cs.map V.int := by rw [List.map_map]; rfl
abbrev s_is_covered : Stmt := topS 9
theorem sc_is_covered : FnScope ["situation", "wides", "wide"] ["situation", "wides"] (defScope s_is_covered) := ⟨rfl, rfl, rfl, by decide +kernel, rfl, by decide +kernel, by decide +kernel⟩
-- is_covered slots: situation=0 wides=1 wide=2 globals: wide_covers
def spIsCov (K : PySem.W.Frag) : Sp := fun vs H Q _ => ∃ (x : V) (a : Addr) (s : Int) (cs : List (Option Int)) (xs : List V) (rs : List Wn), vs = [x, .ref a] ∧ WSit K H x s cs ∧ SqL K H a xs ∧ DpAll K H xs (rs.map wD) ∧ (∀ r ∈ rs, r.2.length = cs.length) ∧ ∀ H', Same H H' → Q (.bl (cvd rs (s, cs))) H'
theorem fd_is_covered {f : Addr} {fd : FuncData} (F : Fun K "is_covered" "is_covered" s_is_covered f fd) (m : mg "is_covered" = some (.ref f)) (D_wide_covers : Fd P w K mg base "wide_covers" ["first", "second"] 1 (spWCov K)) : Fd P w K mg base "is_covered" ["situation", "wides"] 2 (spIsCov K) := by
  refine ⟨f, fd, F.ok sc_is_covered (fun vs H Q E h => ?_) (fun cdv A outer s H vs Q E hr h => ?_), m, F.kp, F.binds (ps := ["situation", "wides"]) fun _ _ _ _ _ _ us hl => match us, hl with | [_, _], _ => rfl⟩
  · obtain ⟨x, a, s, cs, xs, rs, rfl, _⟩ := h
    rfl
  obtain ⟨x, a, s, cs, xs, rs, rfl, hx, ha, hd, hl, q⟩ := h
  refine ⟨_, (pss_cons (ps_for PassesOwn.never rfl (piL K (pv 1)) (pg_name (i := 2) sc_is_covered.nd rfl (Or.inl rfl))
 (pss_one (ps_if (pt_val (pe_fn D_wide_covers (hr.mono (by decide)) rfl (pa_cons (pv 2) (pa_cons (pv 0) pa_nil))))
 (pss_one (ps_ret pe_bl))
 pss_nil)))
 (pss_one (ps_ret pe_bl))), ?_⟩
  have xl := dpa_map_len hd
  refine ⟨_, rfl, a, rfl, ⟨_, ha⟩, for_list (xs := xs) (fun i σ' H' => ∃ y2 : Option V, σ' = [some x, some (.ref a), y2] ∧ Same H H' ∧ cvd (rs.take i) (s, cs) = false) ⟨none, rfl, Same.refl _, rfl⟩ ?_ ?_ ?_⟩
  · rintro i σ' H' _ ⟨y2, rfl, sm, _⟩
    exact sm.seq ha
  · rintro i u σ' H' hu ⟨y2, rfl, sm, g⟩
    obtain ⟨r, hr', du⟩ := dpa_map_at hd hu
    refine ⟨_, rfl, _, rfl, u, x, r.1, s, r.2, cs, rfl, dp_wsit (dp_mono sm du), Same.wsit sm hx, hl r (List.mem_of_getElem? hr'), fun H2 s2 => ⟨_, rfl, ?_⟩⟩
    have sm2 := sm.trans s2
    cases c : covW r.1 r.2 s cs with
    | true =>
      have q' := q _ sm2
      rw [cvd_at (x := (s, cs)) hr' c] at q'
      exact iteT q'
    | false => exact iteF ⟨_, rfl, sm2, by rw [cvd_snoc hr', g, show covW r.1 r.2 (s, cs).1 (s, cs).2 = false from c]; rfl⟩
  · rintro σ' H' ⟨y2, rfl, sm, g⟩
    rw [xl, List.take_length] at g
    have q' := q _ sm
    rw [g] at q'
    exact q'
abbrev s_beginning : Stmt := topS 10
theorem sc_beginning : FnScope ["machine", "state", "counts"] ["machine"] (defScope s_beginning) := ⟨rfl, rfl, rfl, by decide +kernel, rfl, by decide +kernel, by decide +kernel⟩
-- beginning slots: machine=0 state=1 counts=2 globals: start_with
def spBegin (K : PySem.W.Frag) : Sp := fun vs H Q _ => ∃ (v : V) (M : MT), vs = [v] ∧ Dp K H v M.data ∧ M.crew < M.cnts.length ∧ ∀ H' p, Same H H' → NewW H H' p (begW M).1 (begW M).2 → Q (.ref p) H'
theorem fd_beginning {f : Addr} {fd : FuncData} (F : Fun K "beginning" "beginning" s_beginning f fd) (m : mg "beginning" = some (.ref f)) (D_start_with : Fd P w K mg base "start_with" ["machine", "crew"] 1 (spStart K)) : Fd P w K mg base "beginning" ["machine"] 2 (spBegin K) := by
  refine ⟨f, fd, F.ok sc_beginning (fun vs H Q E h => ?_) (fun cdv A outer s H vs Q E hr h => ?_), m, F.kp, F.binds (ps := ["machine"]) fun _ _ _ _ _ _ us hl => match us, hl with | [_], _ => rfl⟩
  · obtain ⟨v, M, rfl, _⟩ := h
    rfl
  obtain ⟨v, M, rfl, hd, hc, q⟩ := h
  obtain ⟨am, sv, ma, xm, rfl, ham, _, _, _⟩ := dp_mt hd
  refine ⟨_, (pss_cons (ps_asg (pe_fn D_start_with (hr.mono (by decide)) rfl (pa_cons (pv 0) (pa_cons pe_int pa_nil))) (pg_tup rfl (pgs_cons (pg_name (i := 1) sc_beginning.nd rfl (Or.inl rfl)) (pgs_cons (pg_name (i := 2) sc_beginning.nd rfl (Or.inl rfl)) pgs_nil))))
 (pss_cons (ps_asg pe_non (pg_sub (pv 2) (pe_ix (ixT K) (pv 0) pe_int (fun _ _ => rfl)) set_list))
 (pss_one (ps_ret (pe_tup (pa_cons (pv 1) (pa_cons (pv 2) pa_nil))))))), ?_⟩
  refine ⟨_, rfl, _, M, 0, rfl, hd, Int.le_refl _, hc, fun H1 p s1 nw => ?_⟩
  obtain ⟨ca, n1, n2, n3, e1, e2⟩ := nw
  refine ⟨p, _, rfl, st e1, rfl, _, _, rfl, _, _, rfl, rfl, ?_⟩
  dsimp only [gName]
  have hb : bump M.cnts M.crew 0 = M.cnts := by
    unfold bump
    rw [Int.add_zero]
    refine List.ext_getElem? fun i => ?_
    rw [List.getElem?_set]
    split
    · rename_i e
      subst e
      rw [gd hc]
    · rfl
  rw [hb, ← map_oV_some] at e2
  refine ⟨_, rfl, _, rfl, _, _, _, _, rfl, rfl, Same.seqT s1 ham, atI_nat (j := 3) rfl, ca, _, _, M.crew, rfl, rfl, e2, ixN_nat (by rw [List.length_map, List.length_map]; exact hc), ?_⟩
  rw [show V.non = oV none from rfl, ← List.map_set]
  have s2 : Same H (upd H1 ca (.lst (((M.cnts.map some).set M.crew none).map oV))) := Same.mut s1 n2
  refine ⟨_, rfl, _, rfl, szc 2, fun t nt => ?_⟩
  have tc : t ≠ ca := fun e => by rw [e, upd_same] at nt; cases nt
  exact q _ t (s2.trans (same_new nt)) ⟨ca, s2.free nt, n2, Ne.symm tc, upd_same, by rw [upd_ne (Ne.symm tc)]; exact upd_same⟩
abbrev s_successors : Stmt := topS 11
theorem sc_successors : FnScope ["machine", "situation", "move"] ["machine", "situation"] (defScope s_successors) := ⟨rfl, rfl, rfl, by decide +kernel, rfl, by decide +kernel, by decide +kernel⟩
-- successors slots: machine=0 situation=1(cell) move=2(None) globals: 
def spSucc (K : PySem.W.Frag) : Sp := fun vs H Q _ => ∃ (v x : V) (M : MT) (s : Int) (cs : List (Option Int)) (S : Nat), vs = [v, x] ∧ Dp K H v M.data ∧ WSit K H x s cs ∧ (∀ m ∈ M.moves, m.Fit S cs.length) ∧ M.moves.length ≤ 90000 ∧
  ∀ (H' : Hp) (p : Addr) (xs : List V), Same H H' → H p = none → H' p = some (.lst xs) → DpAll K (Ho p H') xs ((succW M (s, cs)).map wD) → Q (.ref p) H'
theorem filter_snoc {α : Type} {f : α → Bool} {xs : List α} {i : Nat} {x : α} (h : xs[i]? = some x) : (xs.take (i + 1)).filter f = (xs.take i).filter f ++ (if f x then [x] else []) := by
  rw [take_snoc h, List.filter_append]
  congr 1
  rw [List.filter_cons]
  rfl
theorem fd_successors {f : Addr} {fd : FuncData} (F : Fun K "successors" "successors" s_successors f fd) (m : mg "successors" = some (.ref f)) (D_can_take_wide : Fd P w K mg base "can_take_wide" ["situation", "move"] 1 (spCanW K)) (D_taken_wide : Fd P w K mg base "taken_wide" ["situation", "move"] 1 (spTakenW K)) : Fd P w K mg base "successors" ["machine", "situation"] 2 (spSucc K) := by
  refine ⟨f, fd, F.ok sc_successors (fun vs H Q E h => ?_) (fun cdv A outer s H vs Q E hr h => ?_), m, F.kp, F.binds (ps := ["machine", "situation"]) fun _ _ _ _ _ _ us hl => match us, hl with | [_, _], _ => rfl⟩
  · obtain ⟨v, x, M, s, cs, S, rfl, _⟩ := h
    rfl
  obtain ⟨v, x, M, s, cs, S, rfl, hd, hx, hf, hb, q⟩ := h
  obtain ⟨am, sv, ma, xm, rfl, ham, _, hma, hxm⟩ := dp_mt hd
  have xl := dpa_map_len hxm
  refine ⟨_, (pss_one (ps_ret (pe_lc (own := [("move", 2)]) (g := gName 2) (by rfl) sc_successors.nd (piL K (pe_ix (ixT K) (pv 0) pe_int (fun _ _ => rfl))) (blkOk_by (own := [("move", 2)]) (N := ["machine", "situation", "move"]) (sc := (defScope s_successors)) (by decide +kernel)) (fun _ _ _ _ _ => (pg_name (i := 2) sc_successors.nd rfl (Or.inl rfl))) (fun _ _ _ _ _ => (pts_one (pt_val (pe_fn D_can_take_wide (hr.mono (by decide)) rfl (pa_cons (pv 1) (pa_cons (pv 2) pa_nil)))))) (fun _ _ _ _ _ => (pe_fn D_taken_wide (hr.mono (by decide)) rfl (pa_cons (pv 1) (pa_cons (pv 2) pa_nil))))))), ?_⟩
  refine ⟨_, rfl, _, _, _, _, rfl, rfl, ham, atI_nat (j := 4) rfl, ma, rfl, ⟨_, hma⟩, fun D nD => lc_list (xs := xm) (fun i H' => Same H H' ∧ ∃ ys, H' D = some (.lst ys) ∧ DpAll K (Ho D H') ys ((((M.moves.take i).filter fun m => m.canW s cs).map fun m => ((m.ns : Int), m.aftW cs)).map wD)) ⟨same_new nD, [], upd_same, .nil⟩ (fun _ H' _ h => h.1.seq hma) ?_ ?_⟩
  · rintro i u H' hu ⟨sm, ys, eD, dy⟩
    obtain ⟨mv, hmv, du⟩ := dpa_map_at hxm hu
    have fit := hf mv (List.mem_of_getElem? hmv)
    have yl := dpa_len dy
    rw [filter_snoc hmv]
    refine ⟨rfl, _, rfl, _, rfl, x, u, s, cs, mv, rfl, Same.wsit sm hx, dp_mono sm du, fit.pl, _, rfl, ?_⟩
    cases hc : mv.canW s cs with
    | false =>
      refine iteF ⟨sm, ys, eD, ?_⟩
      rw [if_neg (by decide), List.append_nil]
      exact dy
    | true =>
      refine iteT ⟨_, rfl, _, rfl, x, u, s, cs, mv, S, rfl, Same.wsit sm hx, dp_mono sm du, fit, fun H2 p s2 nw => ?_⟩
      obtain ⟨ca, n1, n2, n3, e1, e2⟩ := nw
      have eD2 := s2 _ _ eD
      have pD : p ≠ D := fun e => by rw [e, eD] at n1; cases n1
      have cD : ca ≠ D := fun e => by rw [e, eD] at n2; cases n2
      have lt := (List.getElem?_eq_some_iff.mp hmv).1
      refine ⟨ys, eD2, ?_, Same.mut (sm.trans s2) nD, ys ++ [.ref p], upd_same, ?_⟩
      · rw [yl, List.length_map, List.length_map]
        have := List.length_filter_le (fun m => m.canW s cs) (M.moves.take i)
        rw [List.length_take] at this
        exact szl (by omega)
      · rw [if_pos rfl, List.map_append, List.map_append]
        refine dpa_app (dpAll_mono ((ho_same s2).trans ho_mut) dy) (.cons (dp_mono ho_mut (wsit_dp ⟨p, ca, rfl, st ?_, sq ?_⟩)) .nil)
        · unfold Ho; rw [if_neg pD]; exact e1
        · unfold Ho; rw [if_neg cD]; exact e2
  rintro H' ⟨sm, ys, eD, dy⟩
  rw [xl, List.take_length] at dy
  exact q _ D ys sm nD eD dy
abbrev s_refuse_shifts : Stmt := topS 14
theorem sc_refuse_shifts : FnScope ["machine", "move"] ["machine"] (defScope s_refuse_shifts) := ⟨rfl, rfl, rfl, by decide +kernel, rfl, by decide +kernel, by decide +kernel⟩
-- refuse_shifts slots: machine=0 move=1 globals: NotPossible
def spRefSh (K : PySem.W.Frag) : Sp := fun vs H Q _ => ∃ (v : V) (M : MT), vs = [v] ∧ Dp K H v M.data ∧ (∀ m ∈ M.moves, m.sh = []) ∧ Q .non H
theorem fd_refuse_shifts {f : Addr} {fd : FuncData} (F : Fun K "refuse_shifts" "refuse_shifts" s_refuse_shifts f fd) (m : mg "refuse_shifts" = some (.ref f)) : Fd P w K mg base "refuse_shifts" ["machine"] 1 (spRefSh K) := by
  refine ⟨f, fd, F.ok sc_refuse_shifts (fun vs H Q E h => ?_) (fun cdv A outer s H vs Q E hr h => ?_), m, F.kp, F.binds (ps := ["machine"]) fun _ _ _ _ _ _ us hl => match us, hl with | [_], _ => rfl⟩
  · obtain ⟨v, M, rfl, _⟩ := h
    rfl
  obtain ⟨v, M, rfl, hd, hsh, q⟩ := h
  obtain ⟨am, sv, ma, xm, rfl, ham, _, hma, hxm⟩ := dp_mt hd
  refine ⟨_, (pss_one (ps_for PassesOwn.never rfl (piL K (pe_ix (ixT K) (pv 0) pe_int (fun _ _ => rfl))) (pg_name (i := 1) sc_refuse_shifts.nd rfl (Or.inl rfl))
 (pss_one (ps_if (ptTru K (pe_ix (ixT K) (pv 1) pe_int (fun _ _ => rfl)) (by intro _; rfl))
 (pss_one ps_never)
 pss_nil)))), ?_⟩
  refine ⟨_, rfl, _, _, _, _, rfl, rfl, ham, atI_nat (j := 4) rfl, ma, rfl, ⟨_, hma⟩, for_list (xs := xm) (fun i σ' H' => ∃ y1 : Option V, σ' = [some (.ref am), y1] ∧ H' = H) ⟨none, rfl, rfl⟩ ?_ ?_ ?_⟩
  · rintro i σ' H' _ ⟨y1, rfl, rfl⟩
    exact hma
  · rintro i u σ' H' hu ⟨y1, rfl, rfl⟩
    obtain ⟨mv, hmv, du⟩ := dpa_map_at hxm hu
    obtain ⟨b, sa, xs, rfl, hb, hsa, hxs⟩ := dp_mv du
    rw [hsh mv (List.mem_of_getElem? hmv)] at hxs
    obtain rfl := dpa_nil hxs
    exact ⟨_, rfl, _, _, _, _, rfl, rfl, hb, atI_nat (j := 5) rfl, false, .inl ⟨[], hsa, rfl⟩, iteF ⟨_, rfl, rfl⟩⟩
  · rintro σ' H' ⟨y1, rfl, rfl⟩
    exact q
/-- .. where a move has shifts -/
def spRefShX (K : PySem.W.Frag) (CN : Addr) : Sp := fun vs H Q E => ∃ (v : V) (M : MT), vs = [v] ∧ Dp K H v M.data ∧ (∃ m ∈ M.moves, m.sh ≠ []) ∧ E (.ref CN) none H
theorem fdX_refuse_shifts {CN : Addr} {f : Addr} {fd : FuncData} (F : Fun K "refuse_shifts" "refuse_shifts" s_refuse_shifts f fd) (m : mg "refuse_shifts" = some (.ref f)) (XN : ExcX K mg "NotPossible" CN) : FdX P w K mg base "refuse_shifts" ["machine"] 1 (spRefShX K CN) := by
  refine ⟨f, fd, F.okX sc_refuse_shifts (fun vs H Q E h => ?_) (fun cdv A outer s H vs Q E hr h => ?_), m, F.kp, F.binds (ps := ["machine"]) fun _ _ _ _ _ _ us hl => match us, hl with | [_], _ => rfl⟩
  · obtain ⟨v, M, rfl, _⟩ := h
    rfl
  obtain ⟨v, M, rfl, hd, ⟨mv, hmem, hne⟩, q⟩ := h
  obtain ⟨am, sv, ma, xm, rfl, ham, _, hma, hxm⟩ := dp_mt hd
  have xl := dpa_map_len hxm
  refine ⟨_, (pss_one (ps_for (passes_of rfl) rfl (piL K (pe_ix (ixT K) (pv 0) pe_int (fun _ _ => rfl))) (pg_name (i := 1) sc_refuse_shifts.nd rfl (Or.inl rfl))
   (pss_one (ps_if (ptTru K (pe_ix (ixT K) (pv 1) pe_int (fun _ _ => rfl)) (by intro _; rfl))
   (pss_one (ps_raise (W := fun cls d _ H => E cls d H) rfl (takes_of rfl rfl rfl rfl) (pmk_own PySem.F.excBase_ValueError XN.exc XN.gC XN.kC (raises_own XN.sub XN.ty) rfl)))
   pss_nil)))), ?_⟩
  refine ⟨_, rfl, _, _, _, _, rfl, rfl, ham, atI_nat (j := 4) rfl, ma, rfl, ⟨_, hma⟩, for_list (xs := xm) (fun i σ' H' => ∃ y1 : Option V, σ' = [some (.ref am), y1] ∧ H' = H ∧ ∀ m ∈ M.moves.take i, m.sh = []) ⟨none, rfl, rfl, fun m h => by rw [List.take_zero] at h; cases h⟩ ?_ ?_ ?_⟩
  · rintro i σ' H' _ ⟨y1, rfl, rfl, _⟩
    exact hma
  · rintro i u σ' H' hu ⟨y1, rfl, rfl, g⟩
    obtain ⟨mv, hmv, du⟩ := dpa_map_at hxm hu
    obtain ⟨b, sa, xs, rfl, hb, hsa, hxs⟩ := dp_mv du
    refine ⟨_, rfl, _, _, _, _, rfl, rfl, hb, atI_nat (j := 5) rfl, !xs.isEmpty, .inl ⟨xs, hsa, rfl⟩, ?_⟩
    cases xs with
    | nil =>
      refine iteF ⟨_, rfl, rfl, fun m h => ?_⟩
      rw [take_snoc hmv] at h
      rcases List.mem_append.mp h with h | h
      · exact g m h
      · rw [List.mem_singleton.mp h]
        have := dpa_map_len hxs
        exact List.length_eq_zero_iff.mp this.symm
    | cons z zs => exact iteT q
  · rintro σ' H' ⟨y1, rfl, rfl, g⟩
    rw [xl, List.take_length] at g
    exact absurd (g mv hmem) hne
abbrev s_is_closed : Stmt := topS 8
theorem sc_is_closed : FnScope ["machine", "chosen", "situation", "other"] ["machine", "chosen"] (defScope s_is_closed) := ⟨rfl, rfl, rfl, by decide +kernel, rfl, by decide +kernel, by decide +kernel⟩
-- is_closed slots: machine=0 chosen=1 situation=2 other=3 globals: refuse_shifts is_covered beginning successors
def spIsClosed (K : PySem.W.Frag) : Sp := fun vs H Q _ => ∃ (v : V) (a : Addr) (M : MT) (xs : List V) (rs : List Wn) (N : Nat), vs = [v, .ref a] ∧ Dp K H v M.data ∧ SqL K H a xs ∧ DpAll K H xs (rs.map wD) ∧ (∀ m ∈ M.moves, m.sh = []) ∧ (∀ m ∈ M.moves, m.Fit M.states N) ∧ M.cnts.length = N ∧ M.crew < N ∧ M.moves.length ≤ 1000 ∧ (∀ r ∈ rs, r.2.length = N) ∧ ∀ H', Same H H' → Q (.bl (closedB M rs)) H'
theorem all_take {α : Type} {xs : List α} {p : α → Bool} {i : Nat} {x : α} (h : xs[i]? = some x) : (xs.take (i + 1)).all p = ((xs.take i).all p && p x) := by
  rw [take_snoc h, List.all_append]
  simp
theorem all_no {α : Type} {xs : List α} {p : α → Bool} {i : Nat} {x : α} (h : xs[i]? = some x) (e : p x = false) : xs.all p = false := by
  rw [List.all_eq_false]
  exact ⟨x, List.mem_of_getElem? h, by rw [e]; decide⟩
theorem fd_is_closed {f : Addr} {fd : FuncData} (F : Fun K "is_closed" "is_closed" s_is_closed f fd) (m : mg "is_closed" = some (.ref f)) (D_refuse_shifts : Fd P w K mg base "refuse_shifts" ["machine"] 1 (spRefSh K)) (D_is_covered : Fd P w K mg base "is_covered" ["situation", "wides"] 2 (spIsCov K)) (D_beginning : Fd P w K mg base "beginning" ["machine"] 2 (spBegin K)) (D_successors : Fd P w K mg base "successors" ["machine", "situation"] 2 (spSucc K)) : Fd P w K mg base "is_closed" ["machine", "chosen"] 3 (spIsClosed K) := by
  refine ⟨f, fd, F.ok sc_is_closed (fun vs H Q E h => ?_) (fun cdv A outer s H vs Q E hr h => ?_), m, F.kp, F.binds (ps := ["machine", "chosen"]) fun _ _ _ _ _ _ us hl => match us, hl with | [_, _], _ => rfl⟩
  · obtain ⟨v, a, M, xs, rs, N, rfl, _⟩ := h
    rfl
  obtain ⟨v, a, M, xs, rs, N, rfl, hd, ha, hx, hsh, hf, hcl, hcr, hml, hl, q⟩ := h
  have xl := dpa_map_len hx
  refine ⟨_, (pss_cons (ps_expr (pe_fn D_refuse_shifts (hr.mono (by decide)) rfl (pa_cons (pv 0) pa_nil)))
 (pss_cons (ps_if (pt_not (pt_val (pe_fn D_is_covered (hr.mono (by decide)) rfl (pa_cons (pe_fn D_beginning (hr.mono (by decide)) rfl (pa_cons (pv 0) pa_nil)) (pa_cons (pv 1) pa_nil)))))
 (pss_one (ps_ret pe_bl))
 pss_nil)
 (pss_cons (ps_for PassesOwn.never rfl (piL K (pv 1)) (pg_name (i := 2) sc_is_closed.nd rfl (Or.inl rfl))
 (pss_one (ps_for PassesOwn.never rfl (piL K (pe_fn D_successors (hr.mono (by decide)) rfl (pa_cons (pv 0) (pa_cons (pv 2) pa_nil)))) (pg_name (i := 3) sc_is_closed.nd rfl (Or.inl rfl))
 (pss_one (ps_if (pt_not (pt_val (pe_fn D_is_covered (hr.mono (by decide)) rfl (pa_cons (pv 3) (pa_cons (pv 1) pa_nil)))))
 (pss_one (ps_ret pe_bl))
 pss_nil)))))
 (pss_one (ps_ret pe_bl))))), ?_⟩
  refine ⟨_, rfl, v, M, rfl, hd, hsh, ?_⟩
  refine ⟨_, rfl, v, M, rfl, hd, by omega, fun H1 p s1 nw => ⟨_, rfl, .ref p, a, (begW M).1, (begW M).2, xs, rs, rfl, nw.sit, s1.seq ha, dpAll_mono s1 hx, fun r hr => by rw [begW_len, hl r hr, hcl], fun H2 s2 => ⟨_, rfl, ?_⟩⟩⟩
  have s12 := s1.trans s2
  unfold closedB at q
  cases e0 : cvd rs (begW M) with
  | false =>
    have q' := q _ s12
    rw [e0] at q'
    exact iteTx rfl q'
  | true =>
    rw [e0, Bool.true_and] at q
    refine iteFx rfl ?_
    refine ⟨_, rfl, a, rfl, ⟨_, s12.seq ha⟩, for_list (xs := xs) (fun i σ' H' => ∃ y2 y3 : Option V, σ' = [some v, some (.ref a), y2, y3] ∧ Same H H' ∧ ((rs.take i).all fun r => (succW M r).all (cvd rs)) = true) ⟨none, none, rfl, s12, rfl⟩ ?_ ?_ ?_⟩
    · rintro i σ' H' _ ⟨y2, y3, rfl, sm, _⟩
      exact sm.seq ha
    · rintro i u σ' H' hu ⟨y2, y3, rfl, sm, g⟩
      obtain ⟨r, hr', du⟩ := dpa_map_at hx hu
      have lr := hl r (List.mem_of_getElem? hr')
      refine ⟨_, rfl, _, rfl, v, u, M, r.1, r.2, M.states, rfl, dp_mono sm hd, dp_wsit (dp_mono sm du), (by rw [lr]; exact hf), by omega, fun H3 D ys s3 nD eD dy => ?_⟩
      have dy' := dpAll_mono ho_out dy
      have yl := dpa_map_len dy'
      have sm3 := sm.trans s3
      refine ⟨D, rfl, ⟨_, sq eD⟩, for_list (xs := ys) (fun j σ' H' => ∃ y3 : Option V, σ' = [some v, some (.ref a), some u, y3] ∧ Same H3 H' ∧ ((succW M r).take j).all (cvd rs) = true) ⟨_, rfl, Same.refl _, rfl⟩ ?_ ?_ ?_⟩
      · rintro j σ' H' _ ⟨y3, rfl, sj, _⟩
        exact sj.seq (sq eD)
      · rintro j u2 σ' H' hu2 ⟨y3, rfl, sj, g2⟩
        obtain ⟨r2, hr2, du2⟩ := dpa_map_at dy' hu2
        have lr2 : r2.2.length = N := by
          obtain ⟨mv, _, e⟩ := List.mem_map.mp (List.mem_of_getElem? hr2)
          rw [← e]
          show (mv.aftW r.2).length = N
          rw [aftW_len, lr]
        have sm4 := sm3.trans sj
        refine ⟨_, rfl, _, rfl, u2, a, r2.1, r2.2, xs, rs, rfl, dp_wsit (dp_mono sj du2), sm4.seq ha, dpAll_mono sm4 hx, fun r hr => by rw [lr2, hl r hr], fun H5 s5 => ⟨_, rfl, ?_⟩⟩
        cases e : cvd rs r2 with
        | true => exact iteFx rfl ⟨_, rfl, sj.trans s5, by rw [all_take hr2, g2, e]; rfl⟩
        | false =>
          have q' := q _ (sm4.trans s5)
          rw [all_no hr' (all_no hr2 e)] at q'
          exact iteTx rfl q'
      · rintro σ' H' ⟨y3, rfl, sj, g2⟩
        rw [yl, List.take_length] at g2
        exact ⟨_, _, rfl, sm3.trans sj, by rw [all_take hr', g, g2]; rfl⟩
    · rintro σ' H' ⟨y2, y3, rfl, sm, g⟩
      rw [xl, List.take_length] at g
      have q' := q _ sm
      rw [g] at q'
      exact q'
def spIsClosedX (K : PySem.W.Frag) (CN : Addr) : Sp := fun vs H Q E => ∃ (v x : V) (M : MT), vs = [v, x] ∧ Dp K H v M.data ∧ (∃ m ∈ M.moves, m.sh ≠ []) ∧ E (.ref CN) none H
theorem fdX_is_closed {CN : Addr} {f : Addr} {fd : FuncData} (F : Fun K "is_closed" "is_closed" s_is_closed f fd) (m : mg "is_closed" = some (.ref f)) (DX_refuse_shifts : FdX P w K mg base "refuse_shifts" ["machine"] 1 (spRefShX K CN)) : FdX P w K mg base "is_closed" ["machine", "chosen"] 2 (spIsClosedX K CN) := by
  refine ⟨f, fd, F.okX sc_is_closed (fun vs H Q E h => ?_) (fun cdv A outer s H vs Q E hr h => ?_), m, F.kp, F.binds (ps := ["machine", "chosen"]) fun _ _ _ _ _ _ us hl => match us, hl with | [_, _], _ => rfl⟩
  · obtain ⟨v, x, M, rfl, _⟩ := h
    rfl
  obtain ⟨v, x, M, rfl, hd, hn, q⟩ := h
  refine ⟨_, (pss_cons (ps_expr (pe_fnX (W := fun cls d _ H => E cls d H) DX_refuse_shifts (hr.mono (by decide)) rfl (takes_of rfl rfl rfl rfl) (pa_cons (pv 0) pa_nil))) (PSs.nox (pss_cons ps_never (pss_cons ps_never (pss_one ps_never))))), ?_⟩
  exact ⟨_, rfl, v, M, rfl, hd, hn, q⟩
end
/-! ### machines of the laws of stage 3 -/
structure MT.OkG (M : MT) (P L : Nat) : Prop where
  s1 : 1 ≤ M.states
  s2 : M.states ≤ 3
  p1 : 1 ≤ M.places
  p2 : M.places ≤ P
  ss : M.sst < M.states
  cl : M.cnts.length = M.places
  cb : ∀ c ∈ M.cnts, 0 ≤ c ∧ c < 3
  cr : M.crew < M.places
  m1 : 1 ≤ M.moves.length
  ml : M.moves.length ≤ L
  fit : ∀ m ∈ M.moves, m.Fit M.states M.places
  nd : M.moves.Nodup
section
variable {P : Program} {w : World} {K : PySem.W.Frag} {mg : Str → Option Value} {base : Heap}
theorem nD_nc {n m : Nat} (h : n < 100) : NcD (nD n) 1 m := NcD.int (by omega)
theorem mv0_nc {m : MvT} {S P : Nat} (h : m.Fit S P) (h0 : m.sh = []) (hS : S ≤ 100) (hP : P ≤ 100) : NcD m.data 7 3 := by
  have b : NcD (sdD m.sd) 1 2 := by
    have := h.sd
    cases e : m.sd with
    | none => exact ⟨rfl, Nat.le_refl _, Nat.zero_le _⟩
    | some d => exact nD_nc (by have := this d e; omega)
  have h1 := h.st
  have h2 := h.pl
  have h3 := h.ns
  have h4 := h.np
  unfold MvT.data
  rw [h0]
  exact (NcL.tup (m := 2) (.cons (nD_nc (by omega)) (.cons (nD_nc (by omega)) (.cons (nD_nc (by omega)) (.cons (nD_nc (by omega)) (.cons b (.cons (NcL.lst (ds := []) (c := 0) (m := 1) .nil) (.nil (c := 0))))))))).mono (by omega) (Nat.le_refl _)
theorem mvs0_nc {S P : Nat} (hS : S ≤ 100) (hP : P ≤ 100) : ∀ {ms : List MvT}, (∀ m ∈ ms, m.Fit S P ∧ m.sh = []) → NcL (ms.map MvT.data) (7 * ms.length) 3
  | [], _ => .nil
  | m :: r, h => by
    obtain ⟨h1, h2⟩ := h m List.mem_cons_self
    exact (NcL.cons (mv0_nc h1 h2 hS hP) (mvs0_nc hS hP fun x hx => h x (List.mem_cons_of_mem _ hx))).mono (by rw [List.length_cons]; omega) (Nat.le_refl _)
theorem intsG_nc {m : Nat} : ∀ {ns : List Int}, (∀ n ∈ ns, n.natAbs < 10 ^ 7) → NcL (ns.map PyData.int) ns.length m
  | [], _ => .nil
  | n :: ns, h => by
    have := NcL.cons (NcD.int (m := m) (h n List.mem_cons_self)) (intsG_nc (m := m) fun x hx => h x (List.mem_cons_of_mem _ hx))
    exact this.mono (by rw [List.length_cons]; omega) (Nat.le_refl _)
theorem mt0_nc {M : MT} {P L : Nat} (h : M.OkG P L) (h6 : ∀ m ∈ M.moves, m.sh = []) (hP : P ≤ 50) : NcD M.data (7 * L + P + 20) 5 := by
  have a := mvs0_nc (S := M.states) (P := M.places) (by have := h.s2; omega) (by have := h.p2; omega) (ms := M.moves) fun m hm => ⟨h.fit m hm, h6 m hm⟩
  have b : NcD (sitD (M.sst : Int) M.cnts) (M.cnts.length + 3) 2 := (NcL.tup (m := 1) (.cons (.int (by have := h.ss; have := h.s2; omega)) (.cons (NcL.lst (intsG_nc (m := 0) (fun n hn => by have := h.cb n hn; omega))) (.nil (c := 0))))).mono (by omega) (Nat.le_refl _)
  have h1 := h.ml
  have h2 := h.cl
  have h3 := h.p2
  have h4 := h.s2
  have h5 := h.cr
  exact (NcL.tup (m := 4) (.cons (nD_nc (by omega)) (.cons (nD_nc (by omega)) (.cons (b.mono (Nat.le_refl _) (by decide)) (.cons (nD_nc (by omega)) (.cons (NcL.lst a) (.nil (c := 0)))))))).mono (by omega) (Nat.le_refl _)
theorem nat_of {z : Int} (h : 0 ≤ z) : ∃ n : Nat, z = (n : Int) := ⟨z.toNat, (Int.toNat_of_nonneg h).symm⟩
theorem eqv_anyG {ds : List PyData} {d : PyData} (h : (ds.any fun z => PyData.eqv z d) = false) (e : PyData.eqv d d = true) : d ∉ ds := fun hm => by
  have : (ds.any fun z => PyData.eqv z d) = true := List.any_eq_true.mpr ⟨d, hm, e⟩
  rw [this] at h
  cases h
end
section
variable {P : Program} {w : World} {K : PySem.W.Frag} {mg : Str → Option Value} {base : Heap}
abbrev s_law_machine : Stmt := topS 18
theorem sc_law_machine : FnScope ["first", "second", "sizes", "states", "places", "draws", "moves", "count", "k", "draw", "other", "started", "move", "counts"] ["first", "second"] (defScope s_law_machine) := ⟨rfl, rfl, rfl, by decide +kernel, rfl, by decide +kernel, by decide +kernel⟩
-- _law_machine slots: first=0 second=1 sizes=2 states=3 places=4 draws=5 moves=6 count=7 k=8 draw=9 other=10 started=11 move=12 counts=13 globals: _law_digits range
def spWMach (K : PySem.W.Frag) : Sp := fun vs H Q _ => ∃ (c1 c2 : Int), vs = [.int c1, .int c2] ∧ 0 ≤ c1 ∧ 0 ≤ c2 ∧
  ∀ H' v (M : MT), Same H H' → Dp K H' v M.data → M.OkG 8 40 → (∀ m ∈ M.moves, m.sh = []) → Q v H'
set_option maxHeartbeats 4000000 in
theorem fd_law_machine {f : Addr} {fd : FuncData} (F : Fun K "_law_machine" "_law_machine" s_law_machine f fd) (m : mg "_law_machine" = some (.ref f)) (B : Bt mg) (D_law_digits : Fd P w K mg base "_law_digits" ["cell", "base", "most"] 1 (spDigits K)) : Fd P w K mg base "_law_machine" ["first", "second"] 2 (spWMach K) := by
  refine ⟨f, fd, F.ok sc_law_machine (fun vs H Q E h => ?_) (fun cdv A outer s H vs Q E hr h => ?_), m, F.kp, F.binds (ps := ["first", "second"]) fun _ _ _ _ _ _ us hl => match us, hl with | [_, _], _ => rfl⟩
  · obtain ⟨c1, c2, rfl, _⟩ := h
    rfl
  obtain ⟨c1, c2, rfl, hc1, hc2, q⟩ := h
  refine ⟨_, (pss_cons (ps_set (i := 2) sc_law_machine.nd rfl (Or.inl rfl) (pe_fn D_law_digits (hr.mono (by decide)) rfl (pa_cons (pv 0) (pa_cons pe_int (pa_cons pe_int pa_nil)))))
 (pss_cons (ps_set (i := 3) sc_law_machine.nd rfl (Or.inl rfl) (pe_op op_add pe_int (pe_op op_mod (pe_ix (ixL K) (pv 2) pe_int (fun _ _ => rfl)) pe_int)))
 (pss_cons (ps_set (i := 4) sc_law_machine.nd rfl (Or.inl rfl) (pe_op op_add pe_int (pe_op op_mod (pe_ix (ixL K) (pv 2) pe_int (fun _ _ => rfl)) pe_int)))
 (C8.pss_cut (ps_if (pt_cmpR op_eq (pe_op op_mod (pe_op op_fdiv (pe_ix (ixL K) (pv 2) pe_int (fun _ _ => rfl)) pe_int) pe_int) pe_int (nomark _))
 (pss_one (ps_set (i := 4) sc_law_machine.nd rfl (Or.inl rfl) (pe_op op_add pe_int (pe_op op_mod (pe_ix (ixL K) (pv 2) pe_int (fun _ _ => rfl)) pe_int))))
 pss_nil)
 (pss_cons (ps_set (i := 5) sc_law_machine.nd rfl (Or.inl rfl) (pe_fn D_law_digits (hr.mono (by decide)) rfl (pa_cons (pv 1) (pa_cons pe_int (pa_cons pe_int pa_nil)))))
 (pss_cons (ps_set (i := 6) sc_law_machine.nd rfl (Or.inl rfl) (pe_lst pa_nil))
 (pss_cons (ps_set (i := 7) sc_law_machine.nd rfl (Or.inl rfl) (pe_op op_add pe_int (pe_op op_mod (pe_ix (ixL K) (pv 2) pe_int (fun _ _ => rfl)) pe_int)))
 (C8.pss_cut (ps_if (pt_cmpR op_eq (pe_op op_mod (pe_op op_fdiv (pe_ix (ixL K) (pv 2) pe_int (fun _ _ => rfl)) pe_int) pe_int) pe_int (nomark _))
 (pss_one (ps_set (i := 7) sc_law_machine.nd rfl (Or.inl rfl) (pe_op op_add pe_int (pe_op op_mod (pe_op op_fdiv (pe_ix (ixL K) (pv 2) pe_int (fun _ _ => rfl)) pe_int) pe_int))))
 pss_nil)
 (pss_cons (ps_for PassesOwn.never rfl (pi_range1 rfl B.range (pa_cons (pv 7) pa_nil)) (pg_name (i := 8) sc_law_machine.nd rfl (Or.inl rfl))
 (pss_cons (ps_set (i := 9) sc_law_machine.nd rfl (Or.inl rfl) (pe_op op_add (pe_ix (ixL K) (pv 5) (pe_op op_mod (pe_op op_mul pe_int (pv 8)) pe_int) (fun _ _ => rfl)) (pe_op op_mul pe_int (pe_op op_fdiv (pv 8) pe_int))))
 (pss_cons (ps_set (i := 10) sc_law_machine.nd rfl (Or.inl rfl) (pe_op op_add (pe_ix (ixL K) (pv 5) (pe_op op_mod (pe_op op_add (pe_op op_mul pe_int (pv 8)) pe_int) pe_int) (fun _ _ => rfl)) (pe_op op_mul pe_int (pe_op op_fdiv (pv 8) pe_int))))
 (pss_cons (ps_set (i := 11) sc_law_machine.nd rfl (Or.inl rfl) pe_non)
 (C8.pss_cut (ps_if (pt_cmpR op_eq (pe_op op_mod (pv 10) pe_int) pe_int (nomark _))
 (pss_one (ps_set (i := 11) sc_law_machine.nd rfl (Or.inl rfl) (pe_op op_mod (pe_op op_fdiv (pv 10) pe_int) (pv 4))))
 pss_nil)
 (pss_cons (ps_set (i := 12) sc_law_machine.nd rfl (Or.inl rfl) (pe_tup (pa_cons (pe_op op_mod (pv 9) (pv 3)) (pa_cons (pe_op op_mod (pe_op op_fdiv (pv 9) pe_int) (pv 4)) (pa_cons (pe_op op_mod (pe_op op_fdiv (pv 9) pe_int) (pv 3)) (pa_cons (pe_op op_mod (pe_op op_fdiv (pv 9) pe_int) (pv 4)) (pa_cons (pv 11) (pa_cons (pe_lst pa_nil) pa_nil))))))))
 (pss_one (ps_if (pt_cmpR (opNotInD K (hu65 hr)) (pv 12) (pv 6) (by rfl))
 (pss_one (ps_expr (peBm K PySem.F.plainAttrs_list PySem.F.slot_list_append PySem.F.type_list_append mt_append (pv 6) (pa_cons (pv 12) pa_nil))))
 pss_nil))))))))
 (pss_cons (ps_set (i := 13) sc_law_machine.nd rfl (Or.inl rfl) (pe_op op_rep (pe_lst (pa_cons pe_int pa_nil)) (pv 4)))
 (pss_cons (ps_asg (pe_op op_mod (pe_op op_fdiv (pe_ix (ixL K) (pv 2) pe_int (fun _ _ => rfl)) pe_int) pe_int) (pg_sub (pv 13) (pe_op op_mod (pe_ix (ixL K) (pv 2) pe_int (fun _ _ => rfl)) (pv 4)) set_list))
 (pss_one (ps_ret (pe_tup (pa_cons (pv 3) (pa_cons (pv 4) (pa_cons (pe_tup (pa_cons (pe_op op_mod (pe_ix (ixL K) (pv 2) pe_int (fun _ _ => rfl)) (pv 3)) (pa_cons (pv 13) pa_nil))) (pa_cons (pe_op op_mod (pe_ix (ixL K) (pv 2) pe_int (fun _ _ => rfl)) (pv 4)) (pa_cons (pv 6) pa_nil))))))))))))))))))), ?_⟩
  refine ⟨_, rfl, c1, 2520, 8, rfl, hc1, by decide, by decide, by decide, fun H1 pd ds s1 npd ed ld hd => ?_⟩
  dsimp only [gName]
  have sd := sq (K := K) ed
  have d0 : ∀ {i : Nat}, i < 8 → 0 ≤ ds.getD i 0 := fun h => (hd _ (gd_mem (by omega))).1
  obtain ⟨S, eS⟩ := nat_of (show (0 : Int) ≤ 1 + ds.getD 0 0 % 3 by have := mod_in (ds.getD 0 0) (show (0 : Int) < 3 by decide); omega)
  have hS : 1 ≤ S ∧ S ≤ 3 := by have := mod_in (ds.getD 0 0) (show (0 : Int) < 3 by decide); omega
  refine ⟨_, rfl, _, _, _, _, rfl, rfl, sd, at_gd (j := 0) rfl (by omega), _, _, rfl, rfl, (by show (0 : Int) < 3; decide), _, _, rfl, rfl, ?_⟩
  dsimp only [gName]
  rw [eS]
  refine ⟨_, rfl, _, _, _, _, rfl, rfl, sd, at_gd (j := 1) rfl (by omega), _, _, rfl, rfl, (by show (0 : Int) < 4; decide), _, _, rfl, rfl, ?_⟩
  dsimp only [gName]
  have m1 := mod_in (ds.getD 1 0) (show (0 : Int) < 4 by decide)
  refine ⟨fun σ' H' => ∃ N : Nat, 1 ≤ N ∧ N ≤ 8 ∧ σ' = [some (.int c1), some (.int c2), some (.ref pd), some (nV S), some (nV N), none, none, none, none, none, none, none, none, none] ∧ H' = H1, ?_, ?_⟩
  · refine ⟨_, rfl, _, _, _, _, rfl, rfl, sd, at_gd (j := 1) rfl (by omega), _, _, rfl, rfl, ⟨by decide, by decide⟩, _, _, rfl, rfl, (by show (0 : Int) < 4; decide), rfl, _, rfl, ite2 (fun e => ?_) (fun e => ?_)⟩
    · obtain ⟨N, eN⟩ := nat_of (show (0 : Int) ≤ 5 + ds.getD 1 0 % 4 by omega)
      refine ⟨_, rfl, _, _, _, _, rfl, rfl, sd, at_gd (j := 1) rfl (by omega), _, _, rfl, rfl, (by show (0 : Int) < 4; decide), _, _, rfl, rfl, ?_⟩
      dsimp only [gName]
      rw [eN]
      exact ⟨N, by omega, by omega, rfl, rfl⟩
    · obtain ⟨N, eN⟩ := nat_of (show (0 : Int) ≤ 1 + ds.getD 1 0 % 4 by omega)
      rw [eN]
      exact ⟨N, by omega, by omega, rfl, rfl⟩
  rintro σ' H1' ⟨N, n1, n8, rfl, rfl⟩
  refine ⟨_, rfl, c2, 27720, 16, rfl, hc2, by decide, by decide, by decide, fun H2 pe es s2 npe ee le he => ?_⟩
  have e0 : ∀ {i : Nat}, i < 16 → 0 ≤ es.getD i 0 := fun h => (he _ (gd_mem (by omega))).1
  have sd2 := s2.seq sd
  have s02 := s1.trans s2
  dsimp only [gName]
  refine ⟨sz (by decide), fun o no => ?_⟩
  dsimp only [gName]
  have m2 := mod_in (ds.getD 2 0) (show (0 : Int) < 8 by decide)
  have s2o := same_new (o := HO.lst []) no
  refine ⟨_, rfl, _, _, _, _, rfl, rfl, s2o.seq sd2, at_gd (j := 2) rfl (by omega), _, _, rfl, rfl, (by show (0 : Int) < 8; decide), _, _, rfl, rfl, ?_⟩
  dsimp only [gName]
  refine ⟨fun σ' H' => ∃ n : Nat, 1 ≤ n ∧ n ≤ 40 ∧ σ' = [some (.int c1), some (.int c2), some (.ref pd), some (nV S), some (nV N), some (.ref pe), some (.ref o), some (nV n), none, none, none, none, none, none] ∧ H' = upd H2 o (.lst []), ?_, ?_⟩
  · refine ⟨_, rfl, _, _, _, _, rfl, rfl, s2o.seq sd2, at_gd (j := 2) rfl (by omega), _, _, rfl, rfl, ⟨by decide, by decide⟩, _, _, rfl, rfl, (by show (0 : Int) < 5; decide), rfl, _, rfl, ite2 (fun e => ?_) (fun e => ?_)⟩
    · have m3 := mod_in (ds.getD 2 0 / 40) (show (0 : Int) < 30 by decide)
      obtain ⟨n, en⟩ := nat_of (show (0 : Int) ≤ 10 + ds.getD 2 0 / 40 % 30 by omega)
      refine ⟨_, rfl, _, _, _, _, rfl, rfl, s2o.seq sd2, at_gd (j := 2) rfl (by omega), _, _, rfl, rfl, ⟨by decide, by decide⟩, _, _, rfl, rfl, (by show (0 : Int) < 30; decide), _, _, rfl, rfl, ?_⟩
      dsimp only [gName]
      rw [en]
      exact ⟨n, by omega, by omega, rfl, rfl⟩
    · obtain ⟨n, en⟩ := nat_of (show (0 : Int) ≤ 1 + ds.getD 2 0 % 8 by omega)
      rw [en]
      exact ⟨n, by omega, by omega, rfl, rfl⟩
  rintro σ' Hx ⟨n, hn1, hn2, rfl, rfl⟩
  have hn : 1 ≤ n ∧ n ≤ 40 := ⟨hn1, hn2⟩
  have see := sq (K := K) ee
  refine ⟨_, rfl, n, rfl, by omega, by omega, for_range (lo := 0) (n := n) (fun i σ' H' => ∃ (y8 y9 y10 y11 y12 : Option V) (ms : List MvT) (xs : List V), σ' = [some (.int c1), some (.int c2), some (.ref pd), some (nV S), some (nV N), some (.ref pe), some (.ref o), some (nV n), y8, y9, y10, y11, y12, none] ∧ Same H2 H' ∧ H' o = some (.lst xs) ∧ ms.length ≤ i ∧ (0 < i → 1 ≤ ms.length) ∧ DpAll K (Ho o H') xs (ms.map MvT.data) ∧ (∀ m ∈ ms, m.Fit S N ∧ m.sh = []) ∧ ms.Nodup) ?_ ?_ ?_⟩
  · exact ⟨_, _, _, _, _, [], [], rfl, s2o, upd_same, Nat.le_refl _, (fun h => absurd h (by decide)), .nil, (fun m hm => by cases hm), .nil⟩
  · rintro i σ' H' hi ⟨y8, y9, y10, y11, y12, ms, xs, rfl, s3, eo, ml, mp, dms, fit, nd⟩
    have x0 := mod_in (2 * (0 + (i : Int))) (show (0 : Int) < 16 by decide)
    have x1 := mod_in (2 * (0 + (i : Int)) + 1) (show (0 : Int) < 16 by decide)
    obtain ⟨j0, ej0⟩ := nat_of x0.1
    obtain ⟨j1, ej1⟩ := nat_of x1.1
    have xl := dpa_map_len dms
    have qi : 0 ≤ (0 + (i : Int)) / 8 ∧ (0 + (i : Int)) / 8 ≤ 5 := by omega
    dsimp only [gName]
    refine ⟨_, rfl, _, rfl, _, _, rfl, rfl, .inl ⟨by decide, by decide⟩, _, _, rfl, rfl, (by show (0 : Int) < 16; decide), _, _, _, _, rfl, rfl, s3.seq see, at_gd ej0 (by omega), _, rfl, _, _, rfl, rfl, ⟨by decide, by decide⟩, _, _, rfl, rfl, .inl ⟨by decide, by decide⟩, _, _, rfl, rfl, ?_⟩
    dsimp only [gName]
    refine ⟨_, rfl, _, rfl, _, _, rfl, rfl, .inl ⟨by decide, by decide⟩, _, _, rfl, rfl, _, _, rfl, rfl, (by show (0 : Int) < 16; decide), _, _, _, _, rfl, rfl, s3.seq see, at_gd ej1 (by omega), _, rfl, _, _, rfl, rfl, ⟨by decide, by decide⟩, _, _, rfl, rfl, .inl ⟨by decide, by decide⟩, _, _, rfl, rfl, ?_⟩
    dsimp only [gName]
    have a0 : 0 ≤ es.getD j0 0 + 37 * ((0 + (i : Int)) / 8) := by have := e0 (i := j0) (by omega); omega
    have b0 : 0 ≤ es.getD j1 0 + 41 * ((0 + (i : Int)) / 8) := by have := e0 (i := j1) (by omega); omega
    generalize es.getD j0 0 + 37 * ((0 + (i : Int)) / 8) = A at a0 ⊢
    generalize es.getD j1 0 + 41 * ((0 + (i : Int)) / 8) = Bz at b0 ⊢
    refine ⟨fun σ' H4 => ∃ sd : Option Nat, (∀ d, sd = some d → d < N) ∧ σ' = [some (.int c1), some (.int c2), some (.ref pd), some (nV S), some (nV N), some (.ref pe), some (.ref o), some (nV n), some (.int (0 + (i : Int))), some (.int A), some (.int Bz), some (sdV sd), y12, none] ∧ H4 = H', ?_, ?_⟩
    · refine ⟨_, rfl, _, _, rfl, rfl, (by show (0 : Int) < 6; decide), rfl, _, rfl, ite2 (fun e => ?_) (fun e => ?_)⟩
      · have md := mod_in (Bz / 6) (show (0 : Int) < (N : Int) by omega)
        obtain ⟨k, ek⟩ := nat_of md.1
        refine ⟨_, rfl, _, _, rfl, rfl, ⟨by decide, by decide⟩, _, rfl, _, _, rfl, rfl, (show (0 : Int) < (N : Int) by omega), ?_⟩
        dsimp only [gName]
        rw [ek]
        exact ⟨some k, fun d hd => by cases hd; omega, rfl, rfl⟩
      · exact ⟨none, fun d hd => (by cases hd), rfl, rfl⟩
    rintro σ' H3 ⟨sd', hsd, rfl, rfl⟩
    have ps : (0 : Int) < (S : Int) := by omega
    have pn : (0 : Int) < (N : Int) := by omega
    have q0 := mod_in A ps
    have q1 := mod_in (A / 3) pn
    have q2 := mod_in (A / 12) ps
    have q3 := mod_in (A / 36) pn
    obtain ⟨k0, e0⟩ := nat_of q0.1
    obtain ⟨k1, e1⟩ := nat_of q1.1
    obtain ⟨k2, e2⟩ := nat_of q2.1
    obtain ⟨k3, e3⟩ := nat_of q3.1
    refine ⟨_, rfl, _, rfl, _, _, rfl, rfl, ps, ?_⟩
    refine ⟨_, rfl, _, _, rfl, rfl, ⟨by decide, by decide⟩, _, rfl, _, _, rfl, rfl, pn, ?_⟩
    refine ⟨_, rfl, _, _, rfl, rfl, ⟨by decide, by decide⟩, _, rfl, _, _, rfl, rfl, ps, ?_⟩
    refine ⟨_, rfl, _, _, rfl, rfl, ⟨by decide, by decide⟩, _, rfl, _, _, rfl, rfl, pn, ?_⟩
    refine ⟨_, rfl, sz (by decide), fun l nl => ⟨szc 6, fun t nt => ?_⟩⟩
    dsimp only [gName]
    rw [e0, e1, e2, e3]
    have s4 := same_new (o := HO.lst []) nl
    have eo4 := s4 _ _ eo
    have fitm : (MvT.mk k0 k1 k2 k3 sd' []).Fit S N := ⟨(by show k0 < S; omega), (by show k1 < N; omega), (by show k2 < S; omega), (by show k3 < N; omega), hsd, ⟨.nil, fun p hp => (by cases hp), fun p hp => (by cases hp), fun p hp => (by cases hp)⟩⟩
    have dl : Dp K (Ho o (upd H3 l (.lst []))) (.ref l) (.list ([].map shD)) := dpo_newL eo nl .nil
    have dt : Dp K (Ho o (upd (upd H3 l (.lst [])) t (.tup [nV k0, nV k1, nV k2, nV k3, sdV sd', .ref l]))) (.ref t) (MvT.mk k0 k1 k2 k3 sd' []).data := dpo_newT eo4 nt (.cons (.int _) (.cons (.int _) (.cons (.int _) (.cons (.int _) (.cons (sd_dp _) (.cons dl .nil))))))
    have s5 := same_new (o := HO.tup [nV k0, nV k1, nV k2, nV k3, sdV sd', .ref l]) nt
    have eo5 := s5 _ _ eo4
    have dms5 := dpAll_mono ((ho_same s4).trans (ho_same s5)) dms
    have s35 := s3.trans (s4.trans s5)
    generalize upd (upd H3 l (.lst [])) t (.tup [nV k0, nV k1, nV k2, nV k3, sdV sd', .ref l]) = H5 at dt eo5 dms5 s35 ⊢
    have nc1 := mv0_nc fitm rfl (by omega) (by omega)
    have ncl := NcL.lst (mvs0_nc (S := S) (P := N) (by omega) (by omega) (ms := ms) fit)
    refine ⟨_, rfl, _, rfl, _, _, dp_mono ho_out dt, .lst (sq eo5) (dpAll_mono ho_out dms5), nc1.shaped (by decide), ncl.shaped (by decide), _, rfl, ?_⟩
    cases hany : ((ms.map MvT.data).any fun z => PyData.eqv z (MvT.mk k0 k1 k2 k3 sd' []).data) with
    | true =>
      refine iteF ⟨_, _, _, _, _, ms, xs, rfl, s35, eo5, by omega, fun _ => ?_, dms5, fit, nd⟩
      cases ms with
      | nil => cases hany
      | cons a r => exact Nat.succ_le_succ (Nat.zero_le _)
    | false =>
      refine iteT ⟨_, rfl, .inl ⟨rfl, _, sq eo5⟩, _, rfl, o, _, _, rfl, rfl, eo5, szl (by omega), ?_⟩
      have hni : MvT.mk k0 k1 k2 k3 sd' [] ∉ ms := fun hm => eqv_anyG hany nc1.eqv (List.mem_map_of_mem hm)
      refine ⟨_, _, _, _, _, ms ++ [MvT.mk k0 k1 k2 k3 sd' []], xs ++ [.ref t], rfl, Same.mut s35 no, upd_same, by rw [List.length_append, List.length_singleton]; omega, fun _ => by rw [List.length_append, List.length_singleton]; omega, ?_, ?_, ?_⟩
      · rw [List.map_append]
        exact dpa_app (dpAll_mono ho_mut dms5) (.cons (dp_mono ho_mut dt) .nil)
      · intro x hx
        rcases List.mem_append.mp hx with hx | hx
        · exact fit x hx
        · rw [List.mem_singleton.mp hx]; exact ⟨fitm, rfl⟩
      · refine List.nodup_append.mpr ⟨nd, List.pairwise_singleton _ _, fun x hx y hy e => ?_⟩
        rw [List.mem_singleton.mp hy] at e
        rw [e] at hx
        exact hni hx
  · rintro σ' H3 ⟨y8, y9, y10, y11, y12, ms, xs, rfl, s3, eo, ml, mp, dms, fit, nd⟩
    have ps : (0 : Int) < (S : Int) := by omega
    have pn : (0 : Int) < (N : Int) := by omega
    obtain ⟨k3, e3⟩ := nat_of (mod_in (ds.getD 3 0) pn).1
    obtain ⟨k4, e4⟩ := nat_of (mod_in (ds.getD 4 0) ps).1
    obtain ⟨k5, e5⟩ := nat_of (mod_in (ds.getD 5 0) pn).1
    have b3 := mod_in (ds.getD 3 0) pn
    have b4 := mod_in (ds.getD 4 0) ps
    have b5 := mod_in (ds.getD 5 0) pn
    have v3 := mod_in (ds.getD 3 0 / 4) (show (0 : Int) < 3 by decide)
    refine ⟨szc 1, fun p2 n2 => ⟨_, rfl, p2, _, _, rfl, rfl, upd_same, by omega, by omega, sz (by show 1 * N ≤ _; omega), fun p3 n3 => ?_⟩⟩
    dsimp only [gName]
    rw [rep_one, show ((N : Int)).toNat = N from rfl, rep_map]
    have s4 := (same_new (o := HO.lst [V.int 0]) n2).trans (same_new (o := HO.lst ((List.replicate N (0 : Int)).map V.int)) n3)
    have e43 : (upd (upd H3 p2 (.lst [.int 0])) p3 (.lst ((List.replicate N (0 : Int)).map V.int))) p3 = some (.lst ((List.replicate N (0 : Int)).map V.int)) := upd_same
    have n33 : H3 p3 = none := (same_new n2).free n3
    generalize upd (upd H3 p2 (.lst [.int 0])) p3 (.lst ((List.replicate N (0 : Int)).map V.int)) = H4 at s4 e43 ⊢
    have sd4 := (s3.trans s4).seq sd2
    refine ⟨_, rfl, _, _, _, _, rfl, rfl, sd4, at_gd (j := 3) rfl (by omega), _, _, rfl, rfl, ⟨by decide, by decide⟩, _, _, rfl, rfl, (by show (0 : Int) < 3; decide), _, rfl, _, rfl, _, _, _, _, rfl, rfl, sd4, at_gd (j := 3) rfl (by omega), _, rfl, _, _, rfl, rfl, pn, p3, _, _, k3, rfl, rfl, e43, ?_, ?_⟩
    · rw [e3]
      exact ixN_nat (by rw [List.length_map, List.length_replicate]; omega)
    rw [set_int]
    have s5 : Same H3 (upd H4 p3 (.lst (((List.replicate N (0 : Int)).set k3 (ds.getD 3 0 / 4 % 3)).map V.int))) := Same.mut s4 n33
    have e5c : (upd H4 p3 (.lst (((List.replicate N (0 : Int)).set k3 (ds.getD 3 0 / 4 % 3)).map V.int))) p3 = some (.lst (((List.replicate N (0 : Int)).set k3 (ds.getD 3 0 / 4 % 3)).map V.int)) := upd_same
    have lc : ((List.replicate N (0 : Int)).set k3 (ds.getD 3 0 / 4 % 3)).length = N := by rw [List.length_set, List.length_replicate]
    have hc : ∀ c ∈ (List.replicate N (0 : Int)).set k3 (ds.getD 3 0 / 4 % 3), 0 ≤ c ∧ c < 3 := fun c hc => by
      rcases List.mem_or_eq_of_mem_set hc with h | rfl
      · rw [List.eq_of_mem_replicate h]; decide
      · exact v3
    generalize (List.replicate N (0 : Int)).set k3 (ds.getD 3 0 / 4 % 3) = cs at s5 e5c lc hc ⊢
    generalize upd H4 p3 (.lst (cs.map V.int)) = H5 at s5 e5c ⊢
    have sd5 := (s3.trans s5).seq sd2
    refine ⟨_, rfl, _, rfl, _, rfl, _, _, _, _, rfl, rfl, sd5, at_gd (j := 4) rfl (by omega), _, rfl, _, _, rfl, rfl, ps, _, rfl, szc 2, fun t1 nt1 => ?_⟩
    have s6 := same_new (o := HO.tup [V.int (ds.getD 4 0 % (S : Int)), .ref p3]) nt1
    refine ⟨_, rfl, _, _, _, _, rfl, rfl, s6.seq sd5, at_gd (j := 5) rfl (by omega), _, rfl, _, _, rfl, rfl, pn, _, rfl, szc 5, fun t2 nt2 => ?_⟩
    dsimp only at nt2 ⊢
    rw [e4] at s6 nt2 ⊢
    rw [e5]
    have s7 := same_new (o := HO.tup [nV S, nV N, .ref t1, nV k5, .ref o]) nt2
    have sit : Sit K (upd (upd H5 t1 (.tup [.int (k4 : Int), .ref p3])) t2 (.tup [nV S, nV N, .ref t1, nV k5, .ref o])) (.ref t1) (k4 : Int) cs := ⟨t1, p3, rfl, st (s7 _ _ upd_same), sq (s7 _ _ (s6 _ _ e5c))⟩
    have s57 := s5.trans (s6.trans s7)
    refine q _ _ (MT.mk S N k4 cs k5 ms) (s02.trans (s3.trans s57)) (.tup (st upd_same) (.cons (.int _) (.cons (.int _) (.cons (sit_dp sit) (.cons (.int _) (.cons (.lst (sq (s57 _ _ eo)) (dpAll_mono (ho_out.trans s57) dms)) .nil)))))) ?_ ?_
    · refine ⟨hS.1, hS.2, n1, n8, (by show k4 < S; omega), lc, hc, (by show k5 < N; omega), mp (by omega), (by show ms.length ≤ 40; omega), fun m hm => (fit m hm).1, nd⟩
    · exact fun m hm => (fit m hm).2
end
/-! ### bounds of counts after a move -/
def Bd (B : Int) (cs : List (Option Int)) : Prop := ∀ c ∈ cs, ∀ i, c = some i → -B ≤ i ∧ i ≤ B
theorem Bd.mono {B C : Int} {cs : List (Option Int)} (h : Bd B cs) (hB : B ≤ C) : Bd C cs := fun c hc i e => by have := h c hc i e; omega
theorem Bd.chg {B : Int} {cs : List (Option Int)} (hB : 0 ≤ B) (h : Bd B cs) {p : Option Nat × Int} (hp : -1 ≤ p.2 ∧ p.2 ≤ 1) : Bd (B + 1) (chgO cs p) := by
  unfold chgO
  split
  · exact h.mono (by omega)
  · rename_i k _
    unfold bumpO
    intro c hc i e
    rcases List.mem_or_eq_of_mem_set hc with hc | rfl
    · have := h c hc i e; omega
    · cases e0 : cs.getD k none with
      | none => rw [e0] at e; cases e
      | some j =>
        rw [e0] at e
        have e1 : j + p.2 = i := Option.some.inj e
        by_cases hk : k < cs.length
        · have := h _ (gdO_mem hk) j e0
          omega
        · rw [List.getD_eq_getElem?_getD, List.getElem?_eq_none (by omega)] at e0
          cases e0
theorem Bd.aft {B : Int} {cs : List (Option Int)} (hB : 0 ≤ B) (h : Bd B cs) (m : MvT) : Bd (B + 3) (m.aftW cs) := by
  have a := h.chg hB (p := (some m.pl, -1)) ⟨by show (-1 : Int) ≤ -1; decide, by show (-1 : Int) ≤ 1; decide⟩
  have b := a.chg (by omega) (p := (some m.np, 1)) ⟨by show (-1 : Int) ≤ 1; decide, by show (1 : Int) ≤ 1; decide⟩
  have c := b.chg (by omega) (p := (m.sd, 1)) ⟨by show (-1 : Int) ≤ 1; decide, by show (1 : Int) ≤ 1; decide⟩
  exact c.mono (by omega)
theorem os_ncB {B : Int} (hB : B < 10 ^ 6) {m : Nat} : ∀ {ns : List (Option Int)}, Bd B ns → NcL (ns.map oD) ns.length m
  | [], _ => NcL.nil
  | n :: ns, h => by
    have := NcL.cons (m := m) (c1 := 1) (d := oD n) (by
      cases n with
      | none => exact ⟨rfl, Nat.le_refl _, Nat.zero_le _⟩
      | some i => exact NcD.int (by have := h _ List.mem_cons_self i rfl; omega)) (os_ncB hB fun x hx => h x (List.mem_cons_of_mem _ hx))
    rw [List.length_cons, Nat.add_comm]
    exact this
theorem wsit_ncB {B : Int} (hB : B < 10 ^ 6) {m : Nat} {s : Int} {ns : List (Option Int)} (hs : s.natAbs < 1000) (h : Bd B ns) : NcD (wsitD s ns) (ns.length + 3) (m + 2) := by
  have := ((NcL.cons (NcD.int (i := s) (m := m + 1) (by omega)) (NcL.cons (os_ncB (m := m) hB h).lst (NcL.nil (c := 0))))).tup
  exact this.mono (by omega) (Nat.le_refl _)
theorem rows_nc {S N top : Nat} (hS : S ≤ 100) (ht : top ≤ 50) : ∀ {rs : List Wn}, (∀ r ∈ rs, WOk S N top r) → NcL (rs.map wD) ((N + 3) * rs.length) 2
  | [], _ => NcL.nil
  | r :: rs, h => by
    obtain ⟨h1, h2, h3, h4⟩ := h r List.mem_cons_self
    have a : NcD (wD r) (N + 3) 2 := by
      have := wsit_ncB (B := 50) (m := 0) (s := r.1) (ns := r.2) (by decide) (by omega) (fun c hc i e => by have := h4 c hc i e; omega)
      rw [h1] at this
      exact this
    exact (NcL.cons a (rows_nc hS ht fun x hx => h x (List.mem_cons_of_mem _ hx))).mono (by rw [List.length_cons, Nat.mul_succ]; omega) (Nat.le_refl _)
/-! ### the search forwards, by the definition -/
def moreO : Option Int → Option Int → Bool
  | none, none => false
  | none, some _ => true
  | some _, none => false
  | some a, some b => decide (a > b)
def ltO : List (Option Int) → List (Option Int) → Bool
  | a :: as, b :: bs => if a = b then ltO as bs else moreO b a
  | _, _ => false
def lessW (s : Int) (ms : List (Option Int)) (t : Int) (ns : List (Option Int)) : Bool := if s = t then ltO ms ns else decide (s < t)
theorem ltO_self : ∀ ms : List (Option Int), ltO ms ms = false
  | [] => rfl
  | a :: as => by
    unfold ltO
    rw [if_pos rfl]
    exact ltO_self as
theorem ltO_pre {ms ns : List (Option Int)} {u v : Option Int} : ∀ {i : Nat}, ms.take i = ns.take i → ms[i]? = some u → ns[i]? = some v → u ≠ v → ltO ms ns = moreO v u := by
  induction ms generalizing ns with
  | nil => intro i _ h; simp at h
  | cons a ms ih =>
    intro i e h1 h2 ne
    cases ns with
    | nil => simp at h2
    | cons b ns =>
      cases i with
      | zero =>
        cases h1
        cases h2
        unfold ltO
        rw [if_neg ne]
      | succ i =>
        obtain ⟨e1, e2⟩ := List.cons.inj e
        unfold ltO
        rw [if_pos e1]
        exact ih e2 h1 h2 ne
def widenL (wd os : List (Option Int)) : List (Option Int) := (List.range wd.length).map fun k => if moreO (wd.getD k none) (os.getD k none) = true then none else wd.getD k none
def widen1 (s : Int) (wd : List (Option Int)) (o : Wn) : List (Option Int) := if covW s wd o.1 o.2 = true then widenL wd o.2 else wd
def widen (s : Int) (wd : List (Option Int)) (anc : List Wn) : List (Option Int) := anc.foldl (widen1 s) wd
theorem widenL_len (wd os : List (Option Int)) : (widenL wd os).length = wd.length := by
  unfold widenL
  rw [List.length_map, List.length_range]
theorem widen1_len (s : Int) (wd : List (Option Int)) (o : Wn) : (widen1 s wd o).length = wd.length := by
  unfold widen1
  split
  · exact widenL_len _ _
  · rfl
theorem widen_len (s : Int) : ∀ (anc : List Wn) (wd : List (Option Int)), (widen s wd anc).length = wd.length
  | [], _ => rfl
  | o :: r, wd => (widen_len s r (widen1 s wd o)).trans (widen1_len s wd o)
abbrev Qi := Wn × List Wn
def expl1 (M : MT) (q : Qi) (rest : List Qi) (e : List Wn) : List Qi × List Wn :=
  if cvd e q.1 = true then (rest, e) else (rest ++ (succW M (q.1.1, widen q.1.1 q.1.2 q.2)).map (fun f => (f, q.2 ++ [(q.1.1, widen q.1.1 q.1.2 q.2)])), e ++ [(q.1.1, widen q.1.1 q.1.2 q.2)])
def exStep (M : MT) : List Qi × List Wn → List Qi × List Wn
  | ([], e) => ([], e)
  | (q :: r, e) => expl1 M q r e
def exIter (M : MT) : Nat → List Qi × List Wn
  | 0 => ([(begW M, [])], [])
  | n + 1 => exStep M (exIter M n)
/-- what the search holds: counts from 0 to B -/
def WB (S N : Nat) (B : Int) (r : Wn) : Prop := r.2.length = N ∧ 0 ≤ r.1 ∧ r.1 < (S : Int) ∧ ∀ c ∈ r.2, ∀ i, c = some i → 0 ≤ i ∧ i ≤ B
theorem WB.mono {S N : Nat} {B C : Int} {r : Wn} (h : WB S N B r) (hB : B ≤ C) : WB S N C r := ⟨h.1, h.2.1, h.2.2.1, fun c hc i e => by have := h.2.2.2 c hc i e; omega⟩
theorem WB.widen1 {S N : Nat} {B : Int} {s : Int} {wd : List (Option Int)} {o : Wn} (h : WB S N B (s, wd)) : WB S N B (s, widen1 s wd o) := by
  refine ⟨(widen1_len s wd o).trans h.1, h.2.1, h.2.2.1, fun c hc i e => ?_⟩
  change c ∈ My.widen1 s wd o at hc
  unfold My.widen1 at hc
  split at hc
  · unfold widenL at hc
    obtain ⟨k, hk, rfl⟩ := List.mem_map.mp hc
    split at e
    · cases e
    · exact h.2.2.2 _ (gdO_mem (List.mem_range.mp hk)) i e
  · exact h.2.2.2 c hc i e
theorem WB.widen {S N : Nat} {B : Int} {s : Int} : ∀ {anc : List Wn} {wd : List (Option Int)}, WB S N B (s, wd) → WB S N B (s, widen s wd anc)
  | [], _, h => h
  | _ :: r, _, h => WB.widen (anc := r) h.widen1
theorem nn_chg {cs : List (Option Int)} {p : Option Nat × Int} (hp : 0 ≤ p.2) (h : ∀ c ∈ cs, ∀ i, c = some i → 0 ≤ i) : ∀ c ∈ chgO cs p, ∀ i, c = some i → 0 ≤ i := by
  unfold chgO
  split
  · exact h
  · rename_i k _
    unfold bumpO
    intro c hc i e
    rcases List.mem_or_eq_of_mem_set hc with hc | rfl
    · exact h c hc i e
    · cases e0 : cs.getD k none with
      | none => rw [e0] at e; cases e
      | some j =>
        rw [e0] at e
        have e1 : j + p.2 = i := Option.some.inj e
        by_cases hk : k < cs.length
        · have := h _ (gdO_mem hk) j e0
          omega
        · rw [List.getD_eq_getElem?_getD, List.getElem?_eq_none (by omega)] at e0
          cases e0
theorem nn_aft {m : MvT} {s : Int} {cs : List (Option Int)} (hc : m.canW s cs = true) (h : ∀ c ∈ cs, ∀ i, c = some i → 0 ≤ i) : ∀ c ∈ m.aftW cs, ∀ i, c = some i → 0 ≤ i := by
  have h1 : ∀ c ∈ chgO cs (some m.pl, -1), ∀ i, c = some i → 0 ≤ i := by
    intro c hc' i e
    change c ∈ bumpO cs m.pl (-1) at hc'
    unfold bumpO at hc'
    rcases List.mem_or_eq_of_mem_set hc' with hm | rfl
    · exact h c hm i e
    · unfold MvT.canW at hc
      rw [Bool.and_eq_true] at hc
      cases e0 : cs.getD m.pl none with
      | none => rw [e0] at e; cases e
      | some j =>
        rw [e0] at e hc
        have := of_decide_eq_true hc.2
        have e1 : j + -1 = i := Option.some.inj e
        omega
  exact nn_chg (p := (m.sd, 1)) (by show (0 : Int) ≤ 1; decide) (nn_chg (p := (some m.np, 1)) (by show (0 : Int) ≤ 1; decide) h1)
theorem WB.succ {M : MT} {S N : Nat} {B : Int} (hB : 0 ≤ B) (hf : ∀ m ∈ M.moves, m.Fit S N) {r f : Wn} (h : WB S N B r) (hm : f ∈ succW M r) : WB S N (B + 3) f := by
  unfold succW at hm
  obtain ⟨m, hm2, rfl⟩ := List.mem_map.mp hm
  obtain ⟨h1, h2⟩ := List.mem_filter.mp hm2
  have fit := hf m h1
  have nn := nn_aft h2 fun c hc i e => (h.2.2.2 c hc i e).1
  have bd := Bd.aft hB (cs := r.2) (fun c hc i e => by have := h.2.2.2 c hc i e; omega) m
  refine ⟨(aftW_len m r.2).trans h.1, by show (0 : Int) ≤ (m.ns : Int); omega, by show (m.ns : Int) < (S : Int); have := fit.ns; omega, fun c hc i e => ⟨nn c hc i e, (bd c hc i e).2⟩⟩
theorem succW_len (M : MT) (r : Wn) : (succW M r).length ≤ M.moves.length := by
  unfold succW
  rw [List.length_map]
  exact List.length_filter_le _ _
/-- what a state of the search keeps -/
structure ExOk (M : MT) (S N L : Nat) (B : Int) (qs : List Qi) (es : List Wn) : Prop where
  qb : ∀ q ∈ qs, WB S N (B + 3 * (es.length : Int)) q.1 ∧ ∀ a ∈ q.2, WB S N (B + 3 * (es.length : Int)) a
  eb : ∀ r ∈ es, WB S N (B + 3 * (es.length : Int)) r
  ql : qs.length ≤ 1 + L * es.length
  ne : es = [] → qs ≠ []
  al : ∀ q ∈ qs, q.2.length ≤ es.length
theorem ExOk.step {M : MT} {S N L : Nat} {B : Int} {q : Qi} {rest : List Qi} {es : List Wn} (hB : 0 ≤ B) (hf : ∀ m ∈ M.moves, m.Fit S N) (hL : M.moves.length ≤ L) (h : ExOk M S N L B (q :: rest) es) : ExOk M S N L B (expl1 M q rest es).1 (expl1 M q rest es).2 := by
  have hq := h.qb q List.mem_cons_self
  have hl := h.ql
  unfold expl1
  split
  · rename_i hc
    refine ⟨fun x hx => h.qb x (List.mem_cons_of_mem _ hx), h.eb, ?_, fun e => ?_, fun x hx => h.al x (List.mem_cons_of_mem _ hx)⟩
    · have : (q :: rest).length = rest.length + 1 := rfl
      show rest.length ≤ 1 + L * es.length
      omega
    · rw [show es = [] from e] at hc
      cases hc
  · have e1 : ((es ++ [(q.1.1, widen q.1.1 q.1.2 q.2)]).length : Int) = (es.length : Int) + 1 := by rw [List.length_append]; rfl
    have wq : WB S N (B + 3 * (es.length : Int)) (q.1.1, widen q.1.1 q.1.2 q.2) := WB.widen hq.1
    refine ⟨?_, ?_, ?_, fun e => ?_, ?_⟩
    · show ∀ x ∈ rest ++ _, _
      intro x hx
      rw [e1]
      rcases List.mem_append.mp hx with hx | hx
      · have := h.qb x (List.mem_cons_of_mem _ hx)
        exact ⟨this.1.mono (by omega), fun a ha => (this.2 a ha).mono (by omega)⟩
      · obtain ⟨f, hf', rfl⟩ := List.mem_map.mp hx
        refine ⟨(wq.succ (by omega) hf hf').mono (by omega), fun a ha => ?_⟩
        rcases List.mem_append.mp ha with ha | ha
        · exact (hq.2 a ha).mono (by omega)
        · rw [List.mem_singleton.mp ha]; exact wq.mono (by omega)
    · show ∀ x ∈ es ++ _, _
      intro x hx
      rw [e1]
      rcases List.mem_append.mp hx with hx | hx
      · exact (h.eb x hx).mono (by omega)
      · rw [List.mem_singleton.mp hx]; exact wq.mono (by omega)
    · show (rest ++ _).length ≤ 1 + L * (es ++ _).length
      rw [List.length_append, List.length_map, List.length_append]
      have := succW_len M (q.1.1, widen q.1.1 q.1.2 q.2)
      have : (q :: rest).length = rest.length + 1 := rfl
      show _ ≤ 1 + L * (es.length + 1)
      rw [Nat.mul_add, Nat.mul_one]
      omega
    · show _
      exact absurd e (by show es ++ [_] ≠ []; simp)
    · show ∀ x ∈ rest ++ _, _
      intro x hx
      show _ ≤ (es ++ _).length
      rw [List.length_append]
      rcases List.mem_append.mp hx with hx | hx
      · have := h.al x (List.mem_cons_of_mem _ hx)
        omega
      · obtain ⟨f, hf', rfl⟩ := List.mem_map.mp hx
        show (q.2 ++ _).length ≤ _
        rw [List.length_append]
        have := h.al q List.mem_cons_self
        show q.2.length + 1 ≤ es.length + 1
        omega
theorem cut_dropG (xs : List V) (n : Nat) : cutV xs (some (n : Int)) none = xs.drop n := by
  unfold cutV
  rw [HT.sIx_nat, show HT.sIx xs.length xs.length none = xs.length from rfl]
  rcases Nat.le_total n xs.length with h | h
  · rw [Nat.min_eq_left h, List.take_of_length_le (by rw [List.length_drop]; exact Nat.le_refl _)]
  · rw [Nat.min_eq_right h, Nat.sub_self, List.take_zero, List.drop_of_length_le h]
theorem cut_takeG (xs : List V) (n : Nat) : cutV xs none (some (n : Int)) = xs.take n := by
  unfold cutV
  rw [HT.sIx_none, HT.sIx_nat xs.length xs.length n]
  show List.take (min n xs.length - 0) (List.drop 0 xs) = _
  rw [List.drop_zero, Nat.sub_zero]
  rcases Nat.le_total n xs.length with h | h
  · rw [Nat.min_eq_left h]
  · rw [Nat.min_eq_right h, List.take_of_length_le (Nat.le_refl _), List.take_of_length_le h]
theorem dpa_dropG {K : PySem.W.Frag} {H : Hp} : ∀ {xs : List V} {ds : List PyData} (k : Nat), DpAll K H xs ds → DpAll K H (xs.drop k) (ds.drop k)
  | _, _, 0, h => h
  | _, _, _ + 1, .nil => .nil
  | _, _, k + 1, .cons _ t => dpa_dropG k t
theorem dpa_takeG {K : PySem.W.Frag} {H : Hp} : ∀ {xs : List V} {ds : List PyData} (k : Nat), DpAll K H xs ds → DpAll K H (xs.take k) (ds.take k)
  | _, _, 0, _ => by rw [List.take_zero, List.take_zero]; exact .nil
  | _, _, _ + 1, .nil => .nil
  | _, _, k + 1, .cons a t => .cons a (dpa_takeG k t)
section
variable {P : Program} {w : World} {K : PySem.W.Frag} {mg : Str → Option Value} {base : Heap}
abbrev s_law_more : Stmt := topS 22
theorem sc_law_more : FnScope ["first", "second"] ["first", "second"] (defScope s_law_more) := ⟨rfl, rfl, rfl, by decide +kernel, rfl, by decide +kernel, by decide +kernel⟩
-- _law_more slots: first=0 second=1 globals: 
def spMore (K : PySem.W.Frag) : Sp := fun vs H Q _ => ∃ (a b : Option Int), vs = [oV a, oV b] ∧ Q (.bl (moreO a b)) H
theorem fd_law_more {f : Addr} {fd : FuncData} (F : Fun K "_law_more" "_law_more" s_law_more f fd) (m : mg "_law_more" = some (.ref f)) : Fd P w K mg base "_law_more" ["first", "second"] 1 (spMore K) := by
  refine ⟨f, fd, F.ok sc_law_more (fun vs H Q E h => ?_) (fun cdv A outer s H vs Q E hr h => ?_), m, F.kp, F.binds (ps := ["first", "second"]) fun _ _ _ _ _ _ us hl => match us, hl with | [_, _], _ => rfl⟩
  · obtain ⟨a, b, rfl, _⟩ := h
    rfl
  obtain ⟨a, b, rfl, q⟩ := h
  refine ⟨_, (pss_cons (ps_if (PW.pt (pw_or (pt_cmpR op_isN (pv 0) pe_non (nomark _)) (pw_or1 (pt_cmpR op_isN (pv 1) pe_non (nomark _)))))
 (pss_one (ps_ret (pe_and (pe_cmpR op_isN (pv 0) pe_non (nomark _)) (pe_one (pe_cmpR op_notN (pv 1) pe_non (nomark _))))))
 pss_nil)
 (pss_one (ps_ret (pe_cmpR op_gt (pv 0) (pv 1) (nomark _))))), ?_⟩
  refine ⟨_, rfl, rfl, _, rfl, ?_⟩
  rw [oV_non]
  cases a with
  | none =>
    refine iteT (iteT ⟨_, rfl, rfl, _, rfl, ?_⟩)
    refine iteT ⟨_, rfl, rfl, ?_⟩
    cases b with
    | none => exact q
    | some b => exact q
  | some a =>
    refine iteF ⟨_, rfl, rfl, _, rfl, ?_⟩
    rw [oV_non]
    cases b with
    | none => exact iteT ⟨_, rfl, rfl, _, rfl, iteF q⟩
    | some b => exact iteF ⟨_, rfl, _, rfl, _, _, rfl, rfl, q⟩
abbrev s_law_wide_less : Stmt := topS 23
theorem sc_law_wide_less : FnScope ["first", "second", "k"] ["first", "second"] (defScope s_law_wide_less) := ⟨rfl, rfl, rfl, by decide +kernel, rfl, by decide +kernel, by decide +kernel⟩
-- _law_wide_less slots: first=0 second=1 k=2 globals: range len _law_more
def spWLess (K : PySem.W.Frag) : Sp := fun vs H Q _ => ∃ (x y : V) (s t : Int) (ms ns : List (Option Int)), vs = [x, y] ∧ WSit K H x s ms ∧ WSit K H y t ns ∧ ms.length = ns.length ∧ ns.length ≤ 1000 ∧ Q (.bl (lessW s ms t ns)) H
theorem oV_inj {a b : Option Int} (h : oV a = oV b) : a = b := by
  cases a <;> cases b <;> cases h <;> rfl
theorem scal_oo : ∀ (a b : Option Int), scal (oV a) (oV b) = true
  | none, none => rfl
  | none, some _ => rfl
  | some _, none => rfl
  | some _, some _ => rfl
theorem fd_law_wide_less {f : Addr} {fd : FuncData} (F : Fun K "_law_wide_less" "_law_wide_less" s_law_wide_less f fd) (m : mg "_law_wide_less" = some (.ref f)) (B : Bt mg) (D_law_more : Fd P w K mg base "_law_more" ["first", "second"] 1 (spMore K)) : Fd P w K mg base "_law_wide_less" ["first", "second"] 2 (spWLess K) := by
  refine ⟨f, fd, F.ok sc_law_wide_less (fun vs H Q E h => ?_) (fun cdv A outer s H vs Q E hr h => ?_), m, F.kp, F.binds (ps := ["first", "second"]) fun _ _ _ _ _ _ us hl => match us, hl with | [_, _], _ => rfl⟩
  · obtain ⟨x, y, s, t, ms, ns, rfl, _⟩ := h
    rfl
  obtain ⟨x, y, s, t, ms, ns, rfl, ⟨a, ca, rfl, ha, hca⟩, ⟨b, cb, rfl, hb, hcb⟩, hl, hn, q⟩ := h
  refine ⟨_, (pss_cons (ps_if (pt_cmpR op_ne (pe_ix (ixT K) (pv 0) pe_int (fun _ _ => rfl)) (pe_ix (ixT K) (pv 1) pe_int (fun _ _ => rfl)) (nomark _))
 (pss_one (ps_ret (pe_cmpR op_lt (pe_ix (ixT K) (pv 0) pe_int (fun _ _ => rfl)) (pe_ix (ixT K) (pv 1) pe_int (fun _ _ => rfl)) (nomark _))))
 pss_nil)
 (pss_cons (ps_for PassesOwn.never rfl (pi_range1 rfl B.range (pa_cons (pe_callB (cLen K) (by rfl) B.len PySem.boot_len (pa_cons (pe_ix (ixT K) (pv 0) pe_int (fun _ _ => rfl)) pa_nil)) pa_nil)) (pg_name (i := 2) sc_law_wide_less.nd rfl (Or.inl rfl))
 (pss_one (ps_if (pt_cmpR op_ne (pe_ix (ixL K) (pe_ix (ixT K) (pv 0) pe_int (fun _ _ => rfl)) (pv 2) (fun _ _ => rfl)) (pe_ix (ixL K) (pe_ix (ixT K) (pv 1) pe_int (fun _ _ => rfl)) (pv 2) (fun _ _ => rfl)) (nomark _))
 (pss_one (ps_ret (pe_fn D_law_more (hr.mono (by decide)) rfl (pa_cons (pe_ix (ixL K) (pe_ix (ixT K) (pv 1) pe_int (fun _ _ => rfl)) (pv 2) (fun _ _ => rfl)) (pa_cons (pe_ix (ixL K) (pe_ix (ixT K) (pv 0) pe_int (fun _ _ => rfl)) (pv 2) (fun _ _ => rfl)) pa_nil)))))
 pss_nil)))
 (pss_one (ps_ret pe_bl)))), ?_⟩
  refine ⟨_, rfl, _, _, _, _, rfl, rfl, ha, atI_nat (j := 0) rfl, _, rfl, _, _, _, _, rfl, rfl, hb, atI_nat (j := 0) rfl, rfl, _, rfl, ?_⟩
  rw [int_eqE]
  unfold lessW at q
  by_cases est : s = t
  · rw [if_pos est] at q
    rw [decide_eq_true est]
    refine iteF ?_
    have ll : (ms.map oV).length = ms.length := List.length_map _
    refine ⟨_, rfl, _, _, _, _, rfl, rfl, ha, atI_nat (j := 1) rfl, ca, _, rfl, .inl hca, _, rfl, by rw [ll]; omega, by rw [ll]; omega, for_range (lo := 0) (n := (ms.map oV).length) (fun i σ' H' => ∃ y2 : Option V, σ' = [some (.ref a), some (.ref b), y2] ∧ H' = H ∧ ms.take i = ns.take i) ⟨none, rfl, rfl, rfl⟩ ?_ ?_⟩
    · rintro i σ' H' hi ⟨y2, rfl, rfl, g⟩
      rw [ll] at hi
      have hz : (0 : Int) + (i : Int) = (i : Int) := by omega
      have hu : ms[i]? = some (ms.getD i none) := gdO hi
      have hv : ns[i]? = some (ns.getD i none) := gdO (by omega)
      have au := at_gdO (ds := ms) hz hi
      have av := at_gdO (ds := ns) hz (by omega)
      refine ⟨_, rfl, _, _, _, _, rfl, rfl, ha, atI_nat (j := 1) rfl, _, rfl, _, _, _, _, rfl, rfl, hca, au, _, rfl, _, _, _, _, rfl, rfl, hb, atI_nat (j := 1) rfl, _, rfl, _, _, _, _, rfl, rfl, hcb, av, scal_oo _ _, _, rfl, ?_⟩
      by_cases e : ms.getD i none = ns.getD i none
      · refine iteFx (by rw [e, decide_eq_true rfl]; rfl) ⟨_, rfl, rfl, ?_⟩
        rw [take_snoc hu, take_snoc hv, g, e]
      · refine iteTx (by rw [decide_eq_false (fun z => e (oV_inj z))]; rfl) ?_
        rw [ltO_pre g hu hv e] at q
        exact ⟨_, rfl, _, _, _, _, rfl, rfl, hb, atI_nat (j := 1) rfl, _, rfl, _, _, _, _, rfl, rfl, hcb, av, _, rfl, _, _, _, _, rfl, rfl, ha, atI_nat (j := 1) rfl, _, rfl, _, _, _, _, rfl, rfl, hca, au, _, _, rfl, q⟩
    · rintro σ' H' ⟨y2, rfl, rfl, g⟩
      rw [ll, List.take_length, hl, List.take_length] at g
      rw [g, ltO_self] at q
      exact q
  · rw [if_neg est] at q
    rw [decide_eq_false est]
    exact iteT ⟨_, rfl, _, _, _, _, rfl, rfl, ha, atI_nat (j := 0) rfl, _, rfl, _, _, _, _, rfl, rfl, hb, atI_nat (j := 0) rfl, _, _, rfl, rfl, q⟩
/-- a comprehension that keeps those of a list of data for which a test holds -/
theorem lc_filt {α : Type} {fD : α → PyData} {j : Nat} {tt : TT} {vs : List Nat} {σ : L2.St} {H1 : Hp} {D a : Addr} {xs : List V} {as : List α} {Qd : Hp → Prop} (p : α → Bool) (nD : H1 D = none) (ha : SqL K H1 a xs) (hd : DpAll K H1 xs (as.map fD)) (hb : as.length ≤ 90000) (hw : ∀ x, wipe ((wipe σ vs).set j x) vs = wipe σ vs) (hj : ∀ x, ((wipe σ vs).set j (some x))[j]? = some (some x))
    (ht : ∀ (i : Nat) (x : α) (u : V) (H : Hp) (Q : Bool → Hp → Prop), as[i]? = some x → Dp K H u (fD x) → Same H1 H → (∀ H4, Same H H4 → Q (p x) H4) → tt ((wipe σ vs).set j (some u)) H Q)
    (hq : ∀ (H : Hp) (ys : List V), Same H1 H → H D = some (.lst ys) → DpAll K H1 ys ((as.filter p).map fD) → Qd H) :
    ∃ W : Nat → Nat → Hp → Prop, (∃ m, W 0 m (upd H1 D (.lst []))) ∧ ∀ i m H, W i m H →
      ((Itl K a).stop i H ∧ Qd H) ∨ ((Itl K a).go i H ∧ ∃ Nx : Hp → Prop, (∀ H', Nx H' → ∃ m', m' < m ∧ W (i + 1) m' H') ∧ ∀ x H', (Itl K a).yld i H x H' → gName j x (wipe σ vs) H' fun σ2 H2 => wipe σ2 vs = wipe σ vs ∧ tt σ2 H2 fun b H3 =>
        if b = true then tVar j σ2 H3 fun y H4 => ∃ acc, H4 D = some (.lst acc) ∧ acc.length < sizeLine ∧ Nx (upd H4 D (.lst (acc ++ [y]))) else Nx H3) := by
  have xl := dpa_map_len hd
  refine lc_list (xs := xs) (fun i H' => Same H1 H' ∧ ∃ ys, H' D = some (.lst ys) ∧ DpAll K H1 ys (((as.take i).filter p).map fD)) ⟨same_new nD, [], upd_same, .nil⟩ (fun _ H' _ h => h.1.seq ha) ?_ ?_
  · rintro i u H' hu ⟨sm, ys, eD, dy⟩
    obtain ⟨x, hx, du⟩ := dpa_map_at hd hu
    have lt := (List.getElem?_eq_some_iff.mp hx).1
    have yl := dpa_map_len dy
    refine ⟨hw _, ht i x u H' _ hx (dp_mono sm du) sm fun H4 s4 => ?_⟩
    rw [filter_snoc hx]
    cases hp : p x with
    | false =>
      refine iteF ⟨sm.trans s4, ys, s4 _ _ eD, ?_⟩
      rw [if_neg (by decide), List.append_nil]
      exact dy
    | true =>
      refine iteT ⟨u, hj u, ys, s4 _ _ eD, ?_, Same.mut (sm.trans s4) nD, ys ++ [u], upd_same, ?_⟩
      · rw [yl]
        have := List.length_filter_le p (as.take i)
        rw [List.length_take] at this
        exact szl (by omega)
      · rw [if_pos rfl, List.map_append]
        exact dpa_app dy (.cons du .nil)
  · rintro H ⟨sm, ys, eD, dy⟩
    rw [xl, List.take_length] at dy
    exact hq H ys sm eD dy
end
section
variable {P : Program} {w : World} {K : PySem.W.Frag} {mg : Str → Option Value} {base : Heap}
def qiD (q : Qi) : PyData := .list [wD q.1, .list (q.2.map wD)]
theorem filter_cvd (es : List Wn) (x : Wn) : ((es.filter fun r => covW r.1 r.2 x.1 x.2).length = 0) ↔ cvd es x = false := by
  rw [List.length_eq_zero_iff, List.filter_eq_nil_iff]
  unfold cvd
  rw [List.any_eq_false]
/-- what a state of the search is in the heap -/
structure ExAt (K : PySem.W.Frag) (M : MT) (o qa : Addr) (H0 H' : Hp) (qs : List Qi) (es : List Wn) (xs ys : List V) : Prop where
  sm : Same H0 H'
  eq : H' qa = some (.lst xs)
  qo : qa ≠ o
  dq : DpAll K (Ho o H') xs (qs.map qiD)
  eo : H' o = some (.lst ys)
  de : DpAll K (Ho o H') ys (es.map wD)
abbrev s_law_explored : Stmt := topS 24
theorem sc_law_explored : FnScope ["machine", "fuel", "counts", "queue", "explored", "item", "state", "wide", "older", "move", "fresh", "other", "k"] ["machine", "fuel"] (defScope s_law_explored) := ⟨rfl, rfl, rfl, by decide +kernel, rfl, by decide +kernel, by decide +kernel⟩
-- _law_explored slots: machine=0 fuel=1 counts=2 queue=3 explored=4 item=5(cell) state=6 wide=7(cell) older=8(cell) move=9 fresh=10 other=11(None) k=12(None) globals: list len _law_wide_covers range _law_wide_after
def spExpl (K : PySem.W.Frag) : Sp := fun vs H Q _ => ∃ (v : V) (M : MT) (S N L fuel : Nat), vs = [v, nV fuel] ∧ Dp K H v M.data ∧ (∀ m ∈ M.moves, m.Fit S N) ∧ M.cnts.length = N ∧ M.crew < N ∧ N ≤ 1000 ∧ M.moves.length ≤ L ∧ L ≤ 100 ∧ fuel ≤ 100 ∧ WB S N 2 (begW M) ∧
  ∀ (H' : Hp) (u : V), Same H H' → ((∃ n qs es, u = .non ∧ exIter M n = (qs, es) ∧ fuel < es.length) ∨ ∃ (p : Addr) (ys : List V) (n : Nat) (es : List Wn), u = .ref p ∧ H p = none ∧ H' p = some (.lst ys) ∧ DpAll K (Ho p H') ys (es.map wD) ∧ exIter M n = ([], es) ∧ es.length ≤ fuel ∧ es ≠ [] ∧ ∀ r ∈ es, WB S N (2 + 3 * (es.length : Int)) r) → Q u H'
set_option maxHeartbeats 4000000 in
theorem fd_law_explored {f : Addr} {fd : FuncData} (F : Fun K "_law_explored" "_law_explored" s_law_explored f fd) (m : mg "_law_explored" = some (.ref f)) (B : Bt mg) (D_law_wide_covers : Fd P w K mg base "_law_wide_covers" ["first", "second"] 1 (spLWCov K)) (D_law_more : Fd P w K mg base "_law_more" ["first", "second"] 1 (spMore K)) (D_law_wide_after : Fd P w K mg base "_law_wide_after" ["situation", "move"] 1 (spLWA K)) : Fd P w K mg base "_law_explored" ["machine", "fuel"] 2 (spExpl K) := by
  refine ⟨f, fd, F.ok sc_law_explored (fun vs H Q E h => ?_) (fun cdv A outer s H vs Q E hr h => ?_), m, F.kp, F.binds (ps := ["machine", "fuel"]) fun _ _ _ _ _ _ us hl => match us, hl with | [_, _], _ => rfl⟩
  · obtain ⟨v, M, S, N, L, fuel, rfl, _⟩ := h
    rfl
  obtain ⟨v, M, S, N, L, fuel, rfl, hd, hfit, hcl, hcr, hN, hmL, hL, hfu, hbeg, q⟩ := h
  have q1 : ∀ H' n qs es, Same H H' → exIter M n = (qs, es) → fuel < es.length → Q .non H' := fun H' n qs es s h1 h2 => q _ _ s (.inl ⟨n, qs, es, rfl, h1, h2⟩)
  have q2 : ∀ (H' : Hp) (p : Addr) (ys : List V) n es, Same H H' → H p = none → H' p = some (.lst ys) → DpAll K (Ho p H') ys (es.map wD) → exIter M n = ([], es) → es.length ≤ fuel → es ≠ [] → (∀ r ∈ es, WB S N (2 + 3 * (es.length : Int)) r) → Q (.ref p) H' := fun H' p ys n es s h1 h2 h3 h4 h5 h6 h7 => q _ _ s (.inr ⟨p, ys, n, es, rfl, h1, h2, h3, h4, h5, h6, h7⟩)
  obtain ⟨am, sv, ma, xm, rfl, ham, ⟨b, cb, rfl, hb, hcb⟩, hma, hxm⟩ := dp_mt hd
  have xml := dpa_map_len hxm
  refine ⟨_, (pss_cons (ps_set (i := 2) sc_law_explored.nd rfl (Or.inl rfl) (pe_callTy (cList K) (by rfl) B.list (by decide +kernel) (pa_cons (pe_ix (ixT K) (pe_ix (ixT K) (pv 0) pe_int (fun _ _ => rfl)) pe_int (fun _ _ => rfl)) pa_nil)))
 (pss_cons (ps_asg pe_non (pg_sub (pv 2) (pe_ix (ixT K) (pv 0) pe_int (fun _ _ => rfl)) set_list))
 (pss_cons (ps_set (i := 3) sc_law_explored.nd rfl (Or.inl rfl) (pe_lst (pa_cons (pe_lst (pa_cons (pe_tup (pa_cons (pe_ix (ixT K) (pe_ix (ixT K) (pv 0) pe_int (fun _ _ => rfl)) pe_int (fun _ _ => rfl)) (pa_cons (pv 2) pa_nil))) (pa_cons (pe_lst pa_nil) pa_nil))) pa_nil)))
 (pss_cons (ps_set (i := 4) sc_law_explored.nd rfl (Or.inl rfl) (pe_lst pa_nil))
 (pss_cons (ps_while PassesOwn.never (PW.pt (pw_and (pt_cmpR op_gt (pe_callB (cLen K) (by rfl) B.len PySem.boot_len (pa_cons (pv 3) pa_nil)) pe_int (nomark _)) (pw_and1 (pt_cmpR op_le (pe_callB (cLen K) (by rfl) B.len PySem.boot_len (pa_cons (pv 4) pa_nil)) (pv 1) (nomark _)))))
 (pss_cons (ps_set (i := 5) sc_law_explored.nd rfl (Or.inr rfl) (pe_ix (ixL K) (pv 3) pe_int (fun _ _ => rfl)))
 (pss_cons (ps_set (i := 3) sc_law_explored.nd rfl (Or.inl rfl) (pe_slice (slL K) (pv 3) (po_some pe_int) po_none))
 (pss_cons (ps_if (pt_cmpR op_gt (pe_callB (cLen K) (by rfl) B.len PySem.boot_len (pa_cons (pe_lc (own := [("other", 11)]) (g := gName 11) (by rfl) sc_law_explored.nd (piL K (pv 4)) (blkOk_by (own := [("other", 11)]) (N := ["machine", "fuel", "counts", "queue", "explored", "item", "state", "wide", "older", "move", "fresh", "other", "k"]) (sc := (defScope s_law_explored)) (by decide +kernel)) (fun _ _ _ _ _ => (pg_name (i := 11) sc_law_explored.nd rfl (Or.inl rfl))) (fun _ _ _ _ _ => (pts_one (pt_val (pe_fn D_law_wide_covers (hr.mono (by decide)) rfl (pa_cons (pv 11) (pa_cons (pe_ix (ixL K) (pv 5) pe_int (fun _ _ => rfl)) pa_nil)))))) (fun _ _ _ _ _ => (pv 11))) pa_nil)) pe_int (nomark _))
 (pss_one ps_continue)
 pss_nil)
 (pss_cons (ps_set (i := 6) sc_law_explored.nd rfl (Or.inl rfl) (pe_ix (ixT K) (pe_ix (ixL K) (pv 5) pe_int (fun _ _ => rfl)) pe_int (fun _ _ => rfl)))
 (pss_cons (ps_set (i := 7) sc_law_explored.nd rfl (Or.inr rfl) (pe_callTy (cList K) (by rfl) B.list (by decide +kernel) (pa_cons (pe_ix (ixT K) (pe_ix (ixL K) (pv 5) pe_int (fun _ _ => rfl)) pe_int (fun _ _ => rfl)) pa_nil)))
 (pss_cons (ps_for PassesOwn.never rfl (piL K (pe_ix (ixL K) (pv 5) pe_int (fun _ _ => rfl))) (pg_name (i := 8) sc_law_explored.nd rfl (Or.inr rfl))
 (pss_one (ps_if (pt_val (pe_fn D_law_wide_covers (hr.mono (by decide)) rfl (pa_cons (pe_tup (pa_cons (pv 6) (pa_cons (pv 7) pa_nil))) (pa_cons (pv 8) pa_nil))))
 (pss_one (ps_set (i := 7) sc_law_explored.nd rfl (Or.inr rfl) (pe_lc (own := [("k", 12)]) (g := gName 12) (by rfl) sc_law_explored.nd (pi_range1 rfl B.range (pa_cons (pe_callB (cLen K) (by rfl) B.len PySem.boot_len (pa_cons (pv 7) pa_nil)) pa_nil)) (blkOk_by (own := [("k", 12)]) (N := ["machine", "fuel", "counts", "queue", "explored", "item", "state", "wide", "older", "move", "fresh", "other", "k"]) (sc := (defScope s_law_explored)) (by decide +kernel)) (fun _ _ _ _ _ => (pg_name (i := 12) sc_law_explored.nd rfl (Or.inl rfl))) (fun _ _ _ _ _ => pts_nil) (fun _ _ _ _ _ => (pe_ifExp (pt_val (pe_fn D_law_more (hr.mono (by decide)) rfl (pa_cons (pe_ix (ixL K) (pv 7) (pv 12) (fun _ _ => rfl)) (pa_cons (pe_ix (ixL K) (pe_ix (ixT K) (pv 8) pe_int (fun _ _ => rfl)) (pv 12) (fun _ _ => rfl)) pa_nil)))) pe_non (pe_ix (ixL K) (pv 7) (pv 12) (fun _ _ => rfl)))))))
 pss_nil)))
 (pss_cons (ps_expr (peBm K PySem.F.plainAttrs_list PySem.F.slot_list_append PySem.F.type_list_append mt_append (pv 4) (pa_cons (pe_tup (pa_cons (pv 6) (pa_cons (pv 7) pa_nil))) pa_nil)))
 (pss_one (ps_for PassesOwn.never rfl (piL K (pe_ix (ixT K) (pv 0) pe_int (fun _ _ => rfl))) (pg_name (i := 9) sc_law_explored.nd rfl (Or.inl rfl))
 (pss_cons (ps_set (i := 10) sc_law_explored.nd rfl (Or.inl rfl) (pe_fn D_law_wide_after (hr.mono (by decide)) rfl (pa_cons (pe_tup (pa_cons (pv 6) (pa_cons (pv 7) pa_nil))) (pa_cons (pv 9) pa_nil))))
 (pss_one (ps_if (pt_cmpR op_notN (pv 10) pe_non (nomark _))
 (pss_one (ps_set (i := 3) sc_law_explored.nd rfl (Or.inl rfl) (pe_op (opCat K) (pv 3) (pe_lst (pa_cons (pe_lst (pa_cons (pv 10) (pa_cons (pe_op (opCat K) (pe_ix (ixL K) (pv 5) pe_int (fun _ _ => rfl)) (pe_lst (pa_cons (pe_tup (pa_cons (pv 6) (pa_cons (pv 7) pa_nil))) pa_nil))) pa_nil))) pa_nil)))))
 pss_nil)))))))))))))
 (pss_cons (ps_if (pt_cmpR op_gt (pe_callB (cLen K) (by rfl) B.len PySem.boot_len (pa_cons (pv 4) pa_nil)) (pv 1) (nomark _))
 (pss_one (ps_ret pe_non))
 pss_nil)
 (pss_one (ps_ret (pv 4))))))))), ?_⟩
  refine ⟨_, rfl, _, _, _, _, rfl, rfl, ham, atI_nat (j := 2) rfl, _, _, _, _, rfl, rfl, hb, atI_nat (j := 1) rfl, cb, _, rfl, .inl hcb, fun ca nca => ?_⟩
  dsimp only [gName]
  have s1 := same_new (o := HO.lst (M.cnts.map V.int)) nca
  rw [← map_oV_some]
  rw [← map_oV_some] at s1
  refine ⟨_, rfl, _, rfl, _, _, _, _, rfl, rfl, Same.seqT s1 ham, atI_nat (j := 3) rfl, ca, _, _, M.crew, rfl, rfl, upd_same, ixN_nat (by rw [List.length_map, List.length_map]; omega), ?_⟩
  rw [show V.non = oV none from rfl, ← List.map_set]
  have s2 : Same H (upd (upd H ca (.lst ((M.cnts.map some).map oV))) ca (.lst (((M.cnts.map some).set M.crew none).map oV))) := Same.mut s1 nca
  have e2 : (upd (upd H ca (.lst ((M.cnts.map some).map oV))) ca (.lst (((M.cnts.map some).set M.crew none).map oV))) ca = some (.lst (((M.cnts.map some).set M.crew none).map oV)) := upd_same
  generalize upd (upd H ca (.lst ((M.cnts.map some).map oV))) ca (.lst (((M.cnts.map some).set M.crew none).map oV)) = H2 at s2 e2 ⊢
  refine ⟨_, rfl, _, _, _, _, rfl, rfl, Same.seqT s2 ham, atI_nat (j := 2) rfl, _, _, _, _, rfl, rfl, Same.seqT s2 hb, atI_nat (j := 0) rfl, _, rfl, szc 2, fun t1 nt1 => ⟨szc 0, fun l1 nl1 => ⟨szc 2, fun l2 nl2 => ⟨szc 1, fun qa nqa => ?_⟩⟩⟩⟩
  dsimp only [gName]
  have s25 := ((same_new (o := HO.tup [nV M.sst, .ref ca]) nt1).trans (same_new (o := HO.lst []) nl1)).trans ((same_new (o := HO.lst [.ref t1, .ref l1]) nl2).trans (same_new (o := HO.lst [.ref l2]) nqa))
  have d5 : DpAll K (upd (upd (upd (upd H2 t1 (.tup [nV M.sst, .ref ca])) l1 (.lst [])) l2 (.lst [.ref t1, .ref l1])) qa (.lst [.ref l2])) [.ref l2] ([((begW M, []) : Qi)].map qiD) :=
    .cons (.lst (sq ((same_new nqa) _ _ upd_same)) (.cons (wsit_dp ⟨t1, ca, rfl, st ((same_new nqa) _ _ ((same_new nl2) _ _ ((same_new nl1) _ _ upd_same))), sq (s25 _ _ e2)⟩) (.cons (.lst (sq ((same_new nqa) _ _ ((same_new nl2) _ _ upd_same))) .nil) .nil))) .nil
  have e5 : (upd (upd (upd (upd H2 t1 (.tup [nV M.sst, .ref ca])) l1 (.lst [])) l2 (.lst [.ref t1, .ref l1])) qa (.lst [.ref l2])) qa = some (.lst [.ref l2]) := upd_same
  have s05 := s2.trans s25
  generalize upd (upd (upd (upd H2 t1 (.tup [nV M.sst, .ref ca])) l1 (.lst [])) l2 (.lst [.ref t1, .ref l1])) qa (.lst [.ref l2]) = H5 at d5 e5 s05 ⊢
  clear s25 nt1 nl1 nl2 nqa e2 s2 s1
  refine ⟨szc 0, fun o no => ?_⟩
  dsimp only [gName]
  have s56 := same_new (o := HO.lst []) no
  have qo0 : qa ≠ o := fun e => by rw [← e, e5] at no; cases no
  have hoH : ∀ {H' : Hp}, Same H H' → Same H (Ho o H') := fun s a u e => by
    unfold Ho
    rw [if_neg (fun z => by rw [z, s05.free no] at e; cases e)]
    exact s _ _ e
  refine ⟨fun mm σ' H' => ∃ (n : Nat) (qs : List Qi) (es : List Wn) (xs ys : List V) (qa : Addr) (y5 y6 y7 y8 y9 y10 : Option V), mm = (fuel + 1 - es.length) * 100000 + qs.length ∧ es.length ≤ fuel + 1 ∧ σ' = [some (.ref am), some (nV fuel), some (.ref ca), some (.ref qa), some (.ref o), y5, y6, y7, y8, y9, y10, none, none] ∧ ExAt K M o qa H H' qs es xs ys ∧ exIter M n = (qs, es) ∧ ExOk M S N L 2 qs es, ?_, ?_⟩
  · refine ⟨_, 0, [(begW M, [])], [], [.ref l2], [], qa, none, none, none, none, none, none, rfl, Nat.zero_le _, rfl, ⟨s05.trans s56, s56 _ _ e5, qo0, ?_, upd_same, .nil⟩, rfl, ?_⟩
    · refine dpAll_mono ?_ d5
      exact ho_first no
    · refine ⟨fun x hx => ?_, (fun r hr => nomatch hr), by simp, fun _ => by simp, fun x hx => by rw [List.mem_singleton.mp hx]; exact Nat.le_refl _⟩
      rw [List.mem_singleton.mp hx]
      exact ⟨hbeg.mono (by show (2 : Int) ≤ 2 + 3 * 0; decide), fun a ha => nomatch ha⟩
  rintro mm σ' H' ⟨n, qs, es, xs, ys, qa, y5, y6, y7, y8, y9, y10, rfl, hel, rfl, at', hit, ok⟩
  have sm := at'.sm
  have eq := at'.eq
  have eo := at'.eo
  have xl := dpa_map_len at'.dq
  have yl := dpa_map_len at'.de
  have qob := at'.qo
  -- the end of the search
  have fin : (qs = [] ∨ fuel < es.length) → tSeq (tIfS (tTest (tOp (rI0 fun i j => .bl (decide (i > j))) (tCB (rLenQ K) (tCons (tVar 4) tNil)) (tVar 1))) (tRet (tC .non)) tNext) (tRet (tVar 4)) { nx := fun x H' => Q V.non H', rt := Q } [some (.ref am), some (nV fuel), some (.ref ca), some (.ref qa), some (.ref o), y5, y6, y7, y8, y9, y10, none, none] H' := fun h => by
    refine ⟨_, rfl, o, _, rfl, .inl (sq eo), _, rfl, _, _, rfl, rfl, _, rfl, ite2 (fun e => ?_) (fun e => ?_)⟩
    · have := of_decide_eq_true e
      exact q1 H' n qs es sm hit (by omega)
    · have e1 : ¬ (ys.length : Int) > (fuel : Int) := fun z => e (decide_eq_true z)
      have hq : qs = [] := by
        rcases h with h | h
        · exact h
        · exact absurd h (by omega)
      subst hq
      exact ⟨_, rfl, q2 H' o ys n es sm (s05.free no) eo at'.de hit (by omega) (fun z => ok.ne z rfl) ok.eb⟩
  refine ⟨_, rfl, qa, _, rfl, .inl (sq eq), _, _, rfl, rfl, _, rfl, ?_⟩
  cases qs with
  | nil =>
    refine iteFx (decide_eq_false (by rw [xl]; decide)) ?_
    exact iteF (fin (.inl rfl))
  | cons qh rest =>
    refine iteTx (decide_eq_true (by rw [xl]; show (0 : Int) < ((rest.length + 1 : Nat) : Int); omega)) ?_
    refine ⟨_, rfl, o, _, rfl, .inl (sq eo), _, rfl, _, _, rfl, rfl, _, rfl, ite2 (fun e => ?_) (fun e => fin (.inr (by
      have e1 : ¬ (ys.length : Int) ≤ (fuel : Int) := fun z => e (decide_eq_true z)
      omega)))⟩
    have hef := of_decide_eq_true e
    clear fin e
    have hbq := ok.qb qh List.mem_cons_self
    have hql := ok.ql
    have okn := ok.step (by decide) hfit hmL
    have hitn : exIter M (n + 1) = expl1 M qh rest es := by
      show exStep M (exIter M n) = _
      rw [hit]
      rfl
    obtain ⟨u, xr, rfl, du, dr⟩ := dpa_cons at'.dq
    obtain ⟨ia, ixs, rfl, hia, hixs⟩ := dp_lst du
    obtain ⟨uw, r1, rfl, dw, hixs⟩ := dpa_cons hixs
    obtain ⟨ul, r2, rfl, dl, hixs⟩ := dpa_cons hixs
    obtain rfl := dpa_nil hixs
    obtain ⟨wt, wc, rfl, hwt, hwc⟩ := dp_wsit dw
    obtain ⟨la, lxs, rfl, hla, hlxs⟩ := dp_lst dl
    refine ⟨fun σ' H' => ∃ m', m' < (fuel + 1 - es.length) * 100000 + (qh :: rest).length ∧ ∃ (n : Nat) (qs : List Qi) (es : List Wn) (xs ys : List V) (qa : Addr) (y5 y6 y7 y8 y9 y10 : Option V), m' = (fuel + 1 - es.length) * 100000 + qs.length ∧ es.length ≤ fuel + 1 ∧ σ' = [some (.ref am), some (nV fuel), some (.ref ca), some (.ref qa), some (.ref o), y5, y6, y7, y8, y9, y10, none, none] ∧ ExAt K M o qa H H' qs es xs ys ∧ exIter M n = (qs, es) ∧ ExOk M S N L 2 qs es, fun _ _ h => h, ?_⟩
    refine ⟨_, rfl, _, _, _, _, rfl, rfl, sq eq, atI_nat (j := 0) rfl, ?_⟩
    dsimp only [gName]
    refine ⟨_, rfl, 1, rfl, qa, _, rfl, sq eq, fun q2a nq2 => ?_⟩
    dsimp only [gName]
    rw [show cutV (V.ref ia :: xr) (some 1) none = xr from cut_dropG (V.ref ia :: xr) 1]
    have sA := same_new (o := HO.lst xr) nq2
    have eqA : (upd H' q2a (.lst xr)) q2a = some (.lst xr) := upd_same
    have q2o : q2a ≠ o := fun e => by rw [e, eo] at nq2; cases nq2
    have eoA := sA _ _ eo
    have smA := sm.trans sA
    have dqA := dpAll_mono (ho_same sA) dr
    have deA := dpAll_mono (ho_same sA) at'.de
    have hiaA := (ho_same sA).seq hia
    have hwtA := Same.seqT (ho_same sA) hwt
    have hwcA := (ho_same sA).seq hwc
    have hlaA := (ho_same sA).seq hla
    have hlxA := dpAll_mono (ho_same sA) hlxs
    generalize upd H' q2a (.lst xr) = HA at sA eqA eoA smA dqA deA hiaA hwtA hwcA hlaA hlxA ⊢
    clear dr du dw dl hia hwt hwc hla hlxs nq2
    have wA : WSit K HA (.ref wt) qh.1.1 qh.1.2 := ⟨wt, wc, rfl, Same.seqT ho_out hwtA, ho_out.seq hwcA⟩
    refine ⟨_, rfl, o, rfl, ⟨_, sq eoA⟩, fun D nD => ?_⟩
    refine lc_filt (K := K) (fD := wD) (p := fun r => covW r.1 r.2 qh.1.1 qh.1.2) nD (sq eoA) (dpAll_mono ho_out deA) (by omega) (fun _ => rfl) (fun _ => rfl) (fun i r ur Hx Q' hr' dur sx q' => ?_) fun HB zs sB eB dB => ?_
    · have okr := ok.eb r (List.mem_of_getElem? hr')
      refine ⟨_, rfl, _, rfl, _, _, _, _, rfl, rfl, sx.seq (ho_out.seq hiaA), atI_nat (j := 0) rfl, ur, .ref wt, r.1, qh.1.1, r.2, qh.1.2, rfl, dp_wsit dur, Same.wsit sx wA, by rw [okr.1, hbq.1.1], by rw [hbq.1.1]; exact hN, _, rfl, q' _ (Same.refl _)⟩
    have zl := dpa_map_len dB
    have smB := smA.trans sB
    refine ⟨D, _, rfl, .inl (sq eB), _, _, rfl, rfl, _, rfl, ?_⟩
    have eoB := sB _ _ eoA
    have eqB := sB _ _ eqA
    cases hcv : cvd es qh.1 with
    | true =>
      have hne : (es.filter fun r => covW r.1 r.2 qh.1.1 qh.1.2).length ≠ 0 := fun z => by rw [(filter_cvd es qh.1).mp z] at hcv; cases hcv
      refine iteTx (decide_eq_true (by rw [zl]; omega)) ?_
      unfold expl1 at hitn okn
      rw [hcv, if_pos rfl] at hitn okn
      refine ⟨_, ?_, n + 1, rest, es, xr, ys, q2a, _, _, _, _, _, _, rfl, by omega, rfl, ⟨smB, eqB, q2o, dpAll_mono (ho_same sB) dqA, eoB, dpAll_mono (ho_same sB) deA⟩, hitn, okn⟩
      have : (qh :: rest).length = rest.length + 1 := rfl
      omega
    | false =>
      have he0 : (es.filter fun r => covW r.1 r.2 qh.1.1 qh.1.2).length = 0 := (filter_cvd es qh.1).mpr hcv
      refine iteFx (decide_eq_false (by rw [zl]; omega)) ?_
      unfold expl1 at hitn okn
      rw [hcv, if_neg (by decide)] at hitn okn
      have hiaB := sB.seq (ho_out.seq hiaA)
      have hiaB' := (ho_same sB).seq hiaA
      refine ⟨_, rfl, _, _, _, _, rfl, rfl, hiaB, atI_nat (j := 0) rfl, _, _, _, _, rfl, rfl, Same.seqT sB (Same.seqT ho_out hwtA), atI_nat (j := 0) rfl, ?_⟩
      dsimp only [gName]
      refine ⟨_, rfl, _, _, _, _, rfl, rfl, hiaB, atI_nat (j := 0) rfl, _, _, _, _, rfl, rfl, Same.seqT sB (Same.seqT ho_out hwtA), atI_nat (j := 1) rfl, wc, _, rfl, .inl (sB.seq (ho_out.seq hwcA)), fun wl nwl => ?_⟩
      dsimp only [gName]
      have sC := sB.trans (same_new (o := HO.lst (qh.1.2.map oV)) nwl)
      have eC : (upd HB wl (.lst (qh.1.2.map oV))) wl = some (.lst (qh.1.2.map oV)) := upd_same
      generalize upd HB wl (.lst (qh.1.2.map oV)) = HC at sC eC ⊢
      have lla := dpa_map_len hlxA
      -- widening
      refine ⟨_, rfl, _, _, _, _, rfl, rfl, sC.seq (ho_out.seq hiaA), atI_nat (j := 1) rfl, la, rfl, ⟨_, sC.seq (ho_out.seq hlaA)⟩, for_list (xs := lxs) (fun i σ' H' => ∃ (wl : Addr) (y8 : Option V), σ' = [some (.ref am), some (nV fuel), some (.ref ca), some (.ref q2a), some (.ref o), some (.ref ia), some (.int qh.1.1), some (.ref wl), y8, y9, y10, none, none] ∧ Same HA H' ∧ H' wl = some (.lst ((widen qh.1.1 qh.1.2 (qh.2.take i)).map oV)) ∧ wl ≠ o) ⟨wl, _, rfl, sC, eC, fun e => by rw [e, eoB] at nwl; cases nwl⟩ ?_ ?_ ?_⟩
      · rintro i σ' H' _ ⟨wl, y8, rfl, sx, _⟩
        exact sx.seq (ho_out.seq hlaA)
      · rintro i uo σ' H1 huo ⟨wl, y8, rfl, sx, ew, wlo⟩
        obtain ⟨old, hold, dold⟩ := dpa_map_at hlxA huo
        have oka := hbq.2 old (List.mem_of_getElem? hold)
        have wlen : (widen qh.1.1 qh.1.2 (qh.2.take i)).length = N := (widen_len _ _ _).trans hbq.1.1
        have wsn : widen qh.1.1 qh.1.2 (qh.2.take (i + 1)) = widen1 qh.1.1 (widen qh.1.1 qh.1.2 (qh.2.take i)) old := by
          rw [take_snoc hold]
          unfold widen
          rw [List.foldl_append]
          rfl
        rw [wsn]
        generalize widen qh.1.1 qh.1.2 (qh.2.take i) = wd at ew wlen ⊢
        have dold1 := dp_mono (ho_out.trans sx) dold
        dsimp only [gName]
        refine ⟨_, rfl, _, rfl, szc 2, fun t nt => ⟨_, rfl, ?_⟩⟩
        have st1 := same_new (o := HO.tup [V.int qh.1.1, .ref wl]) nt
        have wt1 : WSit K (upd H1 t (.tup [V.int qh.1.1, .ref wl])) (.ref t) qh.1.1 wd := ⟨t, wl, rfl, st upd_same, sq (st1 _ _ ew)⟩
        have wo1 := Same.wsit st1 (dp_wsit dold1)
        have ew1 := st1 _ _ ew
        have sx1 := sx.trans st1
        generalize upd H1 t (.tup [V.int qh.1.1, .ref wl]) = H2x at st1 wt1 wo1 ew1 sx1 ⊢
        refine ⟨.ref t, uo, qh.1.1, old.1, wd, old.2, rfl, wt1, wo1, by rw [wlen, oka.1], by rw [oka.1]; exact hN, ⟨_, rfl, ?_⟩⟩
        cases hc : covW qh.1.1 wd old.1 old.2 with
        | false =>
          refine iteF ⟨wl, _, rfl, sx1, ?_, wlo⟩
          unfold widen1
          rw [hc, if_neg (by decide)]
          exact ew1
        | true =>
          refine iteT ?_
          obtain ⟨oa, oc, rfl, hoa, hoc⟩ := id wo1
          have ll : (wd.map oV).length = wd.length := List.length_map _
          refine ⟨_, rfl, wl, _, rfl, .inl (sq ew1), wd.length, by rw [ll], by omega, by omega, fun D2 nD2 => ?_⟩
          refine lc_valR (K := K) (n := wd.length) (by omega) nD2 (fun k => oV (if moreO (wd.getD k none) (old.2.getD k none) = true then none else wd.getD k none)) (fun _ => rfl) (fun j Hx Q' hj sj q' => ?_) fun H3 s3 e3 => ?_
          · have hz : (0 : Int) + (j : Int) = (j : Int) := by omega
            have aw := at_gdO (ds := wd) hz hj
            refine ⟨_, rfl, _, rfl, _, _, _, _, rfl, rfl, sj.seq (sq ew1), aw, _, rfl, _, _, _, _, rfl, rfl, Same.seqT sj hoa, atI_nat (j := 1) rfl, _, rfl, _, _, _, _, rfl, rfl, sj.seq hoc, at_gdO hz (by rw [oka.1, ← wlen]; exact hj), _, _, rfl, ⟨_, rfl, ?_⟩⟩
            have := q' _ (Same.refl _)
            cases hm : moreO (wd.getD j none) (old.2.getD j none) with
            | true =>
              rw [hm, if_pos rfl] at this
              exact iteT this
            | false =>
              rw [hm, if_neg (by decide)] at this
              exact iteF ⟨_, rfl, _, rfl, _, _, _, _, rfl, rfl, sj.seq (sq ew1), aw, this⟩
          dsimp only [gName]
          refine ⟨D2, _, rfl, sx1.trans s3, ?_, fun e => ?_⟩
          · unfold widen1
            rw [hc, if_pos rfl]
            unfold widenL
            rw [List.map_map]
            exact e3
          · rw [e, sx1 _ _ eoA] at nD2
            cases nD2
      · rintro σ' H1 ⟨wl, y8, rfl, sx, ew, wlo⟩
        rw [lla, List.take_length] at ew
        generalize hwd : widen qh.1.1 qh.1.2 qh.2 = wd at ew hitn okn
        have wok : WB S N (2 + 3 * (es.length : Int)) (qh.1.1, wd) := by rw [← hwd]; exact WB.widen hbq.1
        -- explored.append
        have eo1 := sx _ _ eoA
        refine ⟨_, rfl, .inl ⟨rfl, ys, sq eo1⟩, ?_⟩
        refine ⟨_, rfl, _, rfl, szc 2, fun t nt => ?_⟩
        have to' : t ≠ o := fun e => by rw [e, eo1] at nt; cases nt
        refine ⟨o, ys, _, rfl, rfl, (same_new nt) _ _ eo1, szl (by omega), ?_⟩
        have s1x := same_new (o := HO.tup [V.int qh.1.1, .ref wl]) nt
        have shm : Same (Ho o HA) (Ho o (upd (upd H1 t (.tup [V.int qh.1.1, .ref wl])) o (.lst (ys ++ [.ref t])))) := (ho_same (sx.trans s1x)).trans ho_mut
        have dt : Dp K (Ho o (upd (upd H1 t (.tup [V.int qh.1.1, .ref wl])) o (.lst (ys ++ [.ref t])))) (.ref t) (wD (qh.1.1, wd)) := by
          refine wsit_dp ⟨t, wl, rfl, st ?_, sq ?_⟩
          · unfold Ho; rw [if_neg to', upd_ne to']; exact upd_same
          · unfold Ho; rw [if_neg wlo, upd_ne wlo]; exact s1x _ _ ew
        have ew2 : (upd (upd H1 t (.tup [V.int qh.1.1, .ref wl])) o (.lst (ys ++ [.ref t]))) wl = some (.lst (wd.map oV)) := by rw [upd_ne wlo]; exact s1x _ _ ew
        have eo2 : (upd (upd H1 t (.tup [V.int qh.1.1, .ref wl])) o (.lst (ys ++ [.ref t]))) o = some (.lst (ys ++ [.ref t])) := upd_same
        have sm2 : Same H (upd (upd H1 t (.tup [V.int qh.1.1, .ref wl])) o (.lst (ys ++ [.ref t]))) := Same.mut (smA.trans (sx.trans s1x)) (s05.free no)
        have eq2 : (upd (upd H1 t (.tup [V.int qh.1.1, .ref wl])) o (.lst (ys ++ [.ref t]))) q2a = some (.lst xr) := by rw [upd_ne q2o]; exact (sx.trans s1x) _ _ eqA
        have de2 := dpa_app (dpAll_mono shm deA) (DpAll.cons dt .nil)
        have dq2 := dpAll_mono shm dqA
        have hla2 := shm.seq hlaA
        have hlx2 := dpAll_mono shm hlxA
        have hia2 := shm.seq hiaA
        generalize upd (upd H1 t (.tup [V.int qh.1.1, .ref wl])) o (.lst (ys ++ [.ref t])) = H2 at shm dt ew2 eo2 sm2 eq2 de2 dq2 hla2 hlx2 hia2 ⊢
        have hh2 := hoH sm2
        -- the moves
        refine ⟨_, rfl, _, _, _, _, rfl, rfl, Same.seqT sm2 ham, atI_nat (j := 4) rfl, ma, rfl, ⟨_, sm2.seq hma⟩, for_list (xs := xm) (fun i σ' H' => ∃ (q3 : Addr) (x3 : List V) (y9 y10 : Option V), σ' = [some (.ref am), some (nV fuel), some (.ref ca), some (.ref q3), some (.ref o), some (.ref ia), some (.int qh.1.1), some (.ref wl), y8, y9, y10, none, none] ∧ Same H2 H' ∧ H' q3 = some (.lst x3) ∧ q3 ≠ o ∧ DpAll K (Ho o H') x3 ((rest ++ (((M.moves.take i).filter fun m => m.canW qh.1.1 wd).map fun m => ((m.ns : Int), m.aftW wd)).map fun f => (f, qh.2 ++ [(qh.1.1, wd)])).map qiD)) ⟨q2a, xr, _, _, rfl, Same.refl _, eq2, q2o, ?_⟩ ?_ ?_ ?_⟩
        · rw [List.take_zero]
          show DpAll K (Ho o H2) xr ((rest ++ []).map qiD)
          rw [List.append_nil]
          exact dq2
        · rintro i σ' H' _ ⟨q3, x3, y9, y10, rfl, s3, _⟩
          exact (sm2.trans s3).seq hma
        · rintro i um σ' H3 hum ⟨q3, x3, y9, y10, rfl, s3, eq3, q3o, d3⟩
          obtain ⟨mv, hmv, dum⟩ := dpa_map_at hxm hum
          have fit := hfit mv (List.mem_of_getElem? hmv)
          have lt := (List.getElem?_eq_some_iff.mp hmv).1
          have sm3 := sm2.trans s3
          have x3l := dpa_map_len d3
          rw [filter_snoc hmv]
          dsimp only [gName]
          refine ⟨_, rfl, _, rfl, szc 2, fun t2 nt2 => ⟨_, rfl, ?_⟩⟩
          have s34 := same_new (o := HO.tup [V.int qh.1.1, .ref wl]) nt2
          have wt2 : WSit K (upd H3 t2 (.tup [V.int qh.1.1, .ref wl])) (.ref t2) qh.1.1 wd := ⟨t2, wl, rfl, st upd_same, sq ((s3.trans s34) _ _ ew2)⟩
          refine ⟨.ref t2, um, qh.1.1, wd, mv, S, rfl, wt2, dp_mono (sm3.trans s34) dum, (by rw [wok.1]; exact fit), fun c hc i e => (wok.2.2.2 c hc i e).1, fun hc H4 s4 => ?_, fun hc H4 p4 s4 nw => ?_⟩
          · dsimp only [gName]
            refine ⟨_, rfl, rfl, _, rfl, iteFx rfl ?_⟩
            have s3' := s34.trans s4
            refine ⟨q3, x3, _, _, rfl, s3.trans s3', s3' _ _ eq3, q3o, ?_⟩
            rw [hc, if_neg (by decide), List.append_nil]
            exact dpAll_mono (ho_same s3') d3
          · dsimp only [gName]
            refine ⟨_, rfl, rfl, _, rfl, iteTx rfl ?_⟩
            obtain ⟨c4, n4, n4c, n4d, e4, e4c⟩ := nw
            have s3' := s34.trans s4
            have s24 := s3.trans s3'
            have eo4 := s24 _ _ eo2
            have p4o : p4 ≠ o := fun e => by rw [e, s34 _ _ (s3 _ _ eo2)] at n4; cases n4
            have c4o : c4 ≠ o := fun e => by rw [e, s34 _ _ (s3 _ _ eo2)] at n4c; cases n4c
            have wlo4 := s24 _ _ ew2
            refine ⟨_, rfl, _, rfl, _, rfl, _, _, _, _, rfl, rfl, s24.seq (ho_out.seq hia2), atI_nat (j := 1) rfl, _, rfl, _, rfl, szc 2, fun t5 n5 => ⟨szc 1, fun l6 n6 => ⟨la, l6, lxs, [.ref t5], rfl, rfl, ((s24.trans (same_new n5)).trans (same_new n6)).seq (ho_out.seq hla2), sq upd_same, sz (by rw [lla]; show qh.2.length + 1 ≤ 100000; have := ok.al qh List.mem_cons_self; omega), fun l7 n7 => ?_⟩⟩⟩
            refine ⟨szc 2, fun l8 n8 => ⟨szc 1, fun l9 n9 => ?_⟩⟩
            have s57 := (same_new (o := HO.tup [V.int qh.1.1, .ref wl]) n5).trans ((same_new (o := HO.lst [V.ref t5]) n6).trans (same_new (o := HO.lst (lxs ++ [V.ref t5])) n7))
            have s79 := (same_new (o := HO.lst [V.ref p4, .ref l7]) n8).trans (same_new (o := HO.lst [V.ref l8]) n9)
            have s49 := s57.trans s79
            refine ⟨q3, l9, x3, [.ref l8], rfl, rfl, sq (s49 _ _ (s3' _ _ eq3)), sq upd_same, sz (by
              rw [x3l, List.length_append, List.length_map, List.length_map]
              have h1 := List.length_filter_le (fun m => m.canW qh.1.1 wd) (M.moves.take i)
              rw [List.length_take] at h1
              have h2 : (qh :: rest).length = rest.length + 1 := rfl
              have h3 : L * es.length ≤ 100 * 100 := Nat.mul_le_mul hL (by omega)
              show rest.length + _ + 1 ≤ 100000
              omega), fun q4 n4' => ?_⟩
            have s410 := s49.trans (same_new (o := HO.lst (x3 ++ [V.ref l8])) n4')
            have eq4 : ∀ {G : Hp}, (upd G q4 (.lst (x3 ++ [V.ref l8]))) q4 = some (.lst (x3 ++ [V.ref l8])) := upd_same
            have o10 := s410 _ _ eo4
            have q4o : q4 ≠ o := fun e => by
              have := s49 _ _ eo4
              rw [← e, n4'] at this
              cases this
            have t5o : t5 ≠ o := fun e => by rw [e, eo4] at n5; cases n5
            have l7o : l7 ≠ o := fun e => by
              have := ((same_new (o := HO.tup [V.int qh.1.1, .ref wl]) n5).trans (same_new (o := HO.lst [V.ref t5]) n6)) _ _ eo4
              rw [← e, n7] at this
              cases this
            have l8o : l8 ≠ o := fun e => by
              have := s57 _ _ eo4
              rw [← e, n8] at this
              cases this
            have e5' := (((same_new (o := HO.lst [V.ref t5]) n6).trans (same_new (o := HO.lst (lxs ++ [V.ref t5])) n7)).trans (s79.trans (same_new (o := HO.lst (x3 ++ [V.ref l8])) n4'))) _ _ (upd_same (H := H4) (a := t5) (o := .tup [V.int qh.1.1, .ref wl]))
            have e7' := (s79.trans (same_new (o := HO.lst (x3 ++ [V.ref l8])) n4')) _ _ (upd_same (H := upd (upd H4 t5 (.tup [V.int qh.1.1, .ref wl])) l6 (.lst [.ref t5])) (a := l7) (o := .lst (lxs ++ [V.ref t5])))
            have e8' := ((same_new (o := HO.lst [V.ref l8]) n9).trans (same_new (o := HO.lst (x3 ++ [V.ref l8])) n4')) _ _ (upd_same (H := upd (upd (upd H4 t5 (.tup [V.int qh.1.1, .ref wl])) l6 (.lst [.ref t5])) l7 (.lst (lxs ++ [V.ref t5]))) (a := l8) (o := .lst [V.ref p4, .ref l7]))
            dsimp only [gName]
            refine ⟨q4, x3 ++ [.ref l8], _, _, rfl, s24.trans s410, eq4, q4o, ?_⟩
            rw [hc, if_pos rfl]
            have esn : rest ++ ((((M.moves.take i).filter fun m => m.canW qh.1.1 wd) ++ [mv]).map fun m => ((m.ns : Int), m.aftW wd)).map (fun f => (f, qh.2 ++ [(qh.1.1, wd)])) = (rest ++ ((((M.moves.take i).filter fun m => m.canW qh.1.1 wd)).map fun m => ((m.ns : Int), m.aftW wd)).map (fun f => (f, qh.2 ++ [(qh.1.1, wd)]))) ++ [(((mv.ns : Int), mv.aftW wd), qh.2 ++ [(qh.1.1, wd)])] := by
              rw [List.map_append, List.map_append, List.append_assoc]
              rfl
            rw [esn, List.map_append]
            refine dpa_app (dpAll_mono (ho_same (s3'.trans s410)) d3) (.cons (.lst (xs := [.ref p4, .ref l7]) (sq ?_) (.cons ?_ (.cons (.lst (xs := lxs ++ [.ref t5]) (sq ?_) ?_) .nil))) .nil)
            · unfold Ho; rw [if_neg l8o]; exact e8'
            · exact dp_mono (ho_same s410) (wsit_dp ⟨p4, c4, rfl, st (by unfold Ho; rw [if_neg p4o]; exact e4), sq (by unfold Ho; rw [if_neg c4o]; exact e4c)⟩)
            · unfold Ho; rw [if_neg l7o]; exact e7'
            · rw [List.map_append]
              refine dpa_app (dpAll_mono (ho_same (s24.trans s410)) hlx2) (.cons (wsit_dp ⟨t5, wl, rfl, st ?_, sq ?_⟩) .nil)
              · unfold Ho; rw [if_neg t5o]; exact e5'
              · unfold Ho; rw [if_neg wlo]; exact s410 _ _ wlo4
        · rintro σ' H3 ⟨q3, x3, y9, y10, rfl, s3, eq3, q3o, d3⟩
          rw [xml, List.take_length] at d3
          have hes : es.length + 1 ≤ fuel + 1 := by omega
          refine ⟨_, ?_, n + 1, _, _, x3, ys ++ [.ref t], q3, _, _, _, _, _, _, rfl, ?_, rfl, ⟨sm2.trans s3, eq3, q3o, d3, s3 _ _ eo2, ?_⟩, hitn, okn⟩
          · have h2 : (qh :: rest).length = rest.length + 1 := rfl
            have h4 : ((M.moves.filter fun m => m.canW qh.1.1 wd).map fun m => ((m.ns : Int), m.aftW wd)).length ≤ M.moves.length := succW_len M (qh.1.1, wd)
            rw [List.length_append, List.length_append, List.length_map]
            show (fuel + 1 - (es.length + 1)) * 100000 + _ < _
            have h5 : (fuel + 1 - es.length) = (fuel + 1 - (es.length + 1)) + 1 := by omega
            rw [h5, Nat.add_mul]
            omega
          · rw [List.length_append]; exact hes
          · rw [List.map_append]
            exact dpAll_mono (ho_same s3) de2
end
theorem os_eqv_iff : ∀ {as bs : List (Option Int)}, PyData.eqvAll (as.map oD) (bs.map oD) = true → as = bs
  | [], [], _ => rfl
  | [], _ :: _, h => by cases h
  | _ :: _, [], h => by cases h
  | a :: as, b :: bs, h => by
    have h' : (PyData.eqv (oD a) (oD b) && PyData.eqvAll (as.map oD) (bs.map oD)) = true := h
    rw [Bool.and_eq_true] at h'
    have e1 : a = b := by
      cases a with
      | none =>
        cases b with
        | none => rfl
        | some b => cases h'.1
      | some a =>
        cases b with
        | none => cases h'.1
        | some b => exact congrArg some (of_decide_eq_true h'.1)
    rw [e1, os_eqv_iff h'.2]
theorem wD_eqv_iff {a b : Wn} (h : PyData.eqv (wD a) (wD b) = true) : a = b := by
  obtain ⟨s, ms⟩ := a
  obtain ⟨t, ns⟩ := b
  have h' : (decide (s = t) && (PyData.eqvAll (ms.map oD) (ns.map oD) && true)) = true := h
  rw [Bool.and_true, Bool.and_eq_true] at h'
  rw [of_decide_eq_true h'.1, os_eqv_iff h'.2]
theorem wD_nc {S N : Nat} {B : Int} (hS : S ≤ 900) (hB : B < 10 ^ 6) {r : Wn} (h : WB S N B r) : NcD (wD r) (N + 3) 2 := by
  have := wsit_ncB (B := B) (m := 0) (s := r.1) (ns := r.2) hB (by have := h.2.1; have := h.2.2.1; omega) (fun c hc i e => by have := h.2.2.2 c hc i e; omega)
  rw [h.1] at this
  exact this
theorem eqv_wD {S N : Nat} {B : Int} (hS : S ≤ 900) (hB : B < 10 ^ 6) {a b : Wn} (h : WB S N B b) : PyData.eqv (wD a) (wD b) = decide (a = b) := by
  by_cases e : a = b
  · rw [e, decide_eq_true rfl]
    exact (wD_nc hS hB h).eqv
  · rw [decide_eq_false e]
    cases z : PyData.eqv (wD a) (wD b) with
    | true => exact absurd (wD_eqv_iff z) e
    | false => rfl
def aboveW (row o : Wn) : Bool := decide (o ≠ row) && covW o.1 o.2 row.1 row.2
def covIns (cover : List Wn) (row : Wn) : List Wn := cover.take (cover.filter fun o => lessW o.1 o.2 row.1 row.2).length ++ [row] ++ cover.drop (cover.filter fun o => lessW o.1 o.2 row.1 row.2).length
def covStep (es cover : List Wn) (row : Wn) : List Wn := if (es.filter (aboveW row)).length = 0 ∧ row ∉ cover then covIns cover row else cover
def coverL (es : List Wn) : List Wn := es.foldl (covStep es) []
theorem covIns_mem {cover : List Wn} {row x : Wn} : x ∈ covIns cover row ↔ x = row ∨ x ∈ cover := by
  unfold covIns
  generalize (cover.filter fun o => lessW o.1 o.2 row.1 row.2).length = k
  rw [List.append_assoc, List.mem_append, List.singleton_append, List.mem_cons]
  constructor
  · rintro (h | h | h)
    · exact .inr (List.mem_of_mem_take h)
    · exact .inl h
    · exact .inr (List.mem_of_mem_drop h)
  · rintro (h | h)
    · exact .inr (.inl h)
    · rw [← List.take_append_drop k cover] at h
      rcases List.mem_append.mp h with h | h
      · exact .inl h
      · exact .inr (.inr h)
theorem covIns_len (cover : List Wn) (row : Wn) : (covIns cover row).length = cover.length + 1 := by
  unfold covIns
  generalize (cover.filter fun o => lessW o.1 o.2 row.1 row.2).length = k
  rw [List.length_append, List.length_append, List.length_take, List.length_drop]
  show min k cover.length + 1 + (cover.length - k) = _
  omega
theorem covSteps_sub (es : List Wn) : ∀ (rs cover : List Wn), (∀ x ∈ cover, x ∈ es) → (∀ x ∈ rs, x ∈ es) → ∀ x ∈ rs.foldl (covStep es) cover, x ∈ es
  | [], _, h, _ => h
  | r :: rs, cover, h, h2 => covSteps_sub es rs _ (by
      unfold covStep
      split
      · intro x hx
        rcases covIns_mem.mp hx with rfl | hx
        · exact h2 _ List.mem_cons_self
        · exact h x hx
      · exact h) fun x hx => h2 x (List.mem_cons_of_mem _ hx)
theorem coverL_sub (es : List Wn) : ∀ x ∈ coverL es, x ∈ es := covSteps_sub es es [] (fun x hx => nomatch hx) fun _ h => h
theorem covSteps_len (es : List Wn) : ∀ (rs cover : List Wn), (rs.foldl (covStep es) cover).length ≤ cover.length + rs.length
  | [], _ => Nat.le_refl _
  | r :: rs, cover => by
    refine Nat.le_trans (covSteps_len es rs (covStep es cover r)) ?_
    have : (covStep es cover r).length ≤ cover.length + 1 := by
      unfold covStep
      split
      · exact Nat.le_of_eq (covIns_len _ _)
      · omega
    show _ ≤ cover.length + (rs.length + 1)
    omega
theorem coverL_len (es : List Wn) : (coverL es).length ≤ es.length := by
  have := covSteps_len es es []
  show (es.foldl (covStep es) []).length ≤ _
  rw [List.length_nil, Nat.zero_add] at this
  exact this
/-- covering is an order -/
theorem geO_tr {a b c : Option Int} (h1 : geO a b = true) (h2 : geO b c = true) : geO a c = true := by
  cases a with
  | none => rfl
  | some a =>
    cases b with
    | none => cases h1
    | some b =>
      cases c with
      | none => cases h2
      | some c =>
        have := of_decide_eq_true h1
        have := of_decide_eq_true h2
        exact decide_eq_true (by omega)
theorem geO_anti {a b : Option Int} (h1 : geO a b = true) (h2 : geO b a = true) : a = b := by
  cases a with
  | none => cases b with
    | none => rfl
    | some b => cases h2
  | some a => cases b with
    | none => cases h1
    | some b =>
      have := of_decide_eq_true h1
      have := of_decide_eq_true h2
      rw [show a = b by omega]
theorem geW_tr : ∀ {as bs cs : List (Option Int)}, as.length = bs.length → bs.length = cs.length → geW as bs = true → geW bs cs = true → geW as cs = true
  | [], _, _, _, _, _, _ => rfl
  | _ :: _, [], _, h, _, _, _ => nomatch h
  | _ :: _, _ :: _, [], _, h, _, _ => nomatch h
  | a :: as, b :: bs, c :: cs, h1, h2, h3, h4 => by
    have h3' : (geO a b && geW as bs) = true := h3
    have h4' : (geO b c && geW bs cs) = true := h4
    rw [Bool.and_eq_true] at h3' h4'
    show (geO a c && geW as cs) = true
    rw [geO_tr h3'.1 h4'.1, geW_tr (Nat.succ.inj h1) (Nat.succ.inj h2) h3'.2 h4'.2]
    rfl
theorem geW_anti : ∀ {as bs : List (Option Int)}, as.length = bs.length → geW as bs = true → geW bs as = true → as = bs
  | [], [], _, _, _ => rfl
  | [], _ :: _, h, _, _ => nomatch h
  | _ :: _, [], h, _, _ => nomatch h
  | a :: as, b :: bs, h, h1, h2 => by
    have h1' : (geO a b && geW as bs) = true := h1
    have h2' : (geO b a && geW bs as) = true := h2
    rw [Bool.and_eq_true] at h1' h2'
    rw [geO_anti h1'.1 h2'.1, geW_anti (Nat.succ.inj h) h1'.2 h2'.2]
theorem covW_tr {a b c : Wn} (l1 : a.2.length = b.2.length) (l2 : b.2.length = c.2.length) (h1 : covW a.1 a.2 b.1 b.2 = true) (h2 : covW b.1 b.2 c.1 c.2 = true) : covW a.1 a.2 c.1 c.2 = true := by
  unfold covW at *
  rw [Bool.and_eq_true] at *
  exact ⟨decide_eq_true ((of_decide_eq_true h1.1).trans (of_decide_eq_true h2.1)), geW_tr l1 l2 h1.2 h2.2⟩
theorem covW_anti {a b : Wn} (l1 : a.2.length = b.2.length) (h1 : covW a.1 a.2 b.1 b.2 = true) (h2 : covW b.1 b.2 a.1 a.2 = true) : a = b := by
  unfold covW at *
  rw [Bool.and_eq_true] at *
  exact Prod.ext (of_decide_eq_true h1.1) (geW_anti l1 h1.2 h2.2)
/-- a greatest one -/
theorem greatest {n : Nat} {es : List Wn} (hl : ∀ r ∈ es, r.2.length = n) : ∀ (rs : List Wn), (∀ r ∈ rs, r ∈ es) → rs ≠ [] → ∃ g ∈ rs, ∀ o ∈ rs, covW o.1 o.2 g.1 g.2 = true → o = g
  | [], _, h => absurd rfl h
  | [r], _, _ => ⟨r, List.mem_cons_self, fun o ho _ => List.mem_singleton.mp ho⟩
  | r :: s :: rs, hs, _ => by
    obtain ⟨g, hg, mx⟩ := greatest hl (s :: rs) (fun x hx => hs x (List.mem_cons_of_mem _ hx)) (by simp)
    have lr := hl r (hs r List.mem_cons_self)
    have lg := hl g (hs g (List.mem_cons_of_mem _ hg))
    cases hc : covW r.1 r.2 g.1 g.2 with
    | true =>
      refine ⟨r, List.mem_cons_self, fun o ho h => ?_⟩
      rcases List.mem_cons.mp ho with rfl | ho
      · rfl
      · have lo := hl o (hs o (List.mem_cons_of_mem _ ho))
        have e := mx o ho (covW_tr (by rw [lo, lr]) (by rw [lr, lg]) h hc)
        subst e
        exact covW_anti (by rw [lo, lr]) h hc
    | false =>
      refine ⟨g, List.mem_cons_of_mem _ hg, fun o ho h => ?_⟩
      rcases List.mem_cons.mp ho with rfl | ho
      · rw [hc] at h; cases h
      · exact mx o ho h
theorem covSteps_keep (es : List Wn) : ∀ (rs cover : List Wn), cover ≠ [] → rs.foldl (covStep es) cover ≠ []
  | [], _, h => h
  | r :: rs, cover, h => covSteps_keep es rs _ (by
      unfold covStep
      split
      · intro e
        have := covIns_len cover r
        rw [e] at this
        cases this
      · exact h)
theorem covSteps_ne (es : List Wn) {g : Wn} (hg : (es.filter (aboveW g)).length = 0) : ∀ (rs cover : List Wn), g ∈ rs → rs.foldl (covStep es) cover ≠ []
  | r :: rs, cover, h => by
    rcases List.mem_cons.mp h with rfl | h
    · refine covSteps_keep es rs _ ?_
      unfold covStep
      by_cases hm : g ∈ cover
      · rw [if_neg (fun z => z.2 hm)]
        intro e
        rw [e] at hm
        cases hm
      · rw [if_pos ⟨hg, hm⟩]
        intro e
        have := covIns_len cover g
        rw [e] at this
        cases this
    · exact covSteps_ne es hg rs _ h
theorem coverL_ne {n : Nat} {es : List Wn} (hl : ∀ r ∈ es, r.2.length = n) (h : es ≠ []) : coverL es ≠ [] := by
  obtain ⟨g, hg, mx⟩ := greatest hl es (fun _ h => h) h
  refine covSteps_ne es (g := g) ?_ es [] hg
  rw [List.length_eq_zero_iff, List.filter_eq_nil_iff]
  intro o ho z
  unfold aboveW at z
  rw [Bool.and_eq_true] at z
  exact (of_decide_eq_true z.1) (mx o ho z.2)
theorem foldl_snoc {α β : Type} {f : β → α → β} {b : β} {xs : List α} {i : Nat} {x : α} (h : xs[i]? = some x) : (xs.take (i + 1)).foldl f b = f ((xs.take i).foldl f b) x := by
  rw [take_snoc h, List.foldl_append]
  rfl
theorem dpa_ins {K : PySem.W.Frag} {H : Hp} {xs : List V} {rs : List Wn} {u : V} {r : Wn} (k : Nat) (h : DpAll K H xs (rs.map wD)) (hu : Dp K H u (wD r)) : DpAll K H (xs.take k ++ [u] ++ xs.drop k) ((rs.take k ++ [r] ++ rs.drop k).map wD) := by
  rw [List.map_append, List.map_append, List.map_take, List.map_drop]
  exact dpa_app (dpa_app (dpa_takeG k h) (.cons hu .nil)) (dpa_dropG k h)
section
variable {P : Program} {w : World} {K : PySem.W.Frag} {mg : Str → Option Value} {base : Heap}
abbrev s_law_cover : Stmt := topS 25
theorem sc_law_cover : FnScope ["explored", "cover", "k", "row", "others", "other"] ["explored"] (defScope s_law_cover) := ⟨rfl, rfl, rfl, by decide +kernel, rfl, by decide +kernel, by decide +kernel⟩
-- _law_cover slots: explored=0 cover=1 k=2 row=3(cell) others=4 other=5(None) globals: range len
def spLCover (K : PySem.W.Frag) : Sp := fun vs H Q _ => ∃ (a : Addr) (xs : List V) (es : List Wn) (S N : Nat) (B : Int), vs = [.ref a] ∧ SqL K H a xs ∧ DpAll K H xs (es.map wD) ∧ (∀ r ∈ es, WB S N B r) ∧ S ≤ 900 ∧ N ≤ 900 ∧ B < 10 ^ 6 ∧ es.length ≤ 900 ∧
  ∀ (H' : Hp) (p : Addr) (ys : List V), Same H H' → H p = none → H' p = some (.lst ys) → DpAll K (Ho p H') ys ((coverL es).map wD) → Q (.ref p) H'
set_option maxHeartbeats 2000000 in
theorem fd_law_cover {f : Addr} {fd : FuncData} (F : Fun K "_law_cover" "_law_cover" s_law_cover f fd) (m : mg "_law_cover" = some (.ref f)) (B : Bt mg) (D_law_wide_covers : Fd P w K mg base "_law_wide_covers" ["first", "second"] 1 (spLWCov K)) (D_law_wide_less : Fd P w K mg base "_law_wide_less" ["first", "second"] 2 (spWLess K)) : Fd P w K mg base "_law_cover" ["explored"] 3 (spLCover K) := by
  refine ⟨f, fd, F.ok sc_law_cover (fun vs H Q E h => ?_) (fun cdv A outer s H vs Q E hr h => ?_), m, F.kp, F.binds (ps := ["explored"]) fun _ _ _ _ _ _ us hl => match us, hl with | [_], _ => rfl⟩
  · obtain ⟨a, xs, es, S, N, B, rfl, _⟩ := h
    rfl
  obtain ⟨a, xs, es, S, N, Bz, rfl, ha, hx, hw, hS, hN, hB, hes, q⟩ := h
  have xl := dpa_map_len hx
  refine ⟨_, (pss_cons (ps_set (i := 1) sc_law_cover.nd rfl (Or.inl rfl) (pe_lst pa_nil))
 (pss_cons (ps_for PassesOwn.never rfl (pi_range1 rfl B.range (pa_cons (pe_callB (cLen K) (by rfl) B.len PySem.boot_len (pa_cons (pv 0) pa_nil)) pa_nil)) (pg_name (i := 2) sc_law_cover.nd rfl (Or.inl rfl))
 (pss_cons (ps_set (i := 3) sc_law_cover.nd rfl (Or.inr rfl) (pe_ix (ixL K) (pv 0) (pv 2) (fun _ _ => rfl)))
 (pss_cons (ps_setLc (i := 4) (own := [("other", 5)]) (g := gName 5) (by rfl) sc_law_cover.nd rfl rfl (sw_true rfl rfl rfl (by decide +kernel)) (piL K (pv 0)) (blkOk_by (own := [("other", 5)]) (N := ["explored", "cover", "k", "row", "others", "other"]) (sc := (defScope s_law_cover)) (by decide +kernel)) (fun _ _ _ _ _ => (pg_name (i := 5) sc_law_cover.nd rfl (Or.inl rfl))) (fun _ _ _ _ _ => (pts_one (PW.pt (pw_and (pt_cmpR (opNeD K hr.units) (pv 5) (pv 3) (nomark _)) (pw_and1 (pt_val (pe_fn D_law_wide_covers (hr.mono (by decide)) rfl (pa_cons (pv 5) (pa_cons (pv 3) pa_nil))))))))) (fun _ _ _ _ _ => (pv 5)))
 (pss_one (ps_if (PW.pt (pw_and (pt_cmpR op_eq (pe_callB (cLen K) (by rfl) B.len PySem.boot_len (pa_cons (pv 4) pa_nil)) pe_int (nomark _)) (pw_and1 (pt_cmpR (opNotInD K (hu65 hr)) (pv 3) (pv 1) (by rfl)))))
 (pss_one (ps_expr (peBm K PySem.F.plainAttrs_list PySem.F.slot_list_insert PySem.F.type_list_insert mt_insert (pv 1) (pa_cons (pe_callB (cLen K) (by rfl) B.len PySem.boot_len (pa_cons (pe_lc (own := [("other", 5)]) (g := gName 5) (by rfl) sc_law_cover.nd (piL K (pv 1)) (blkOk_by (own := [("other", 5)]) (N := ["explored", "cover", "k", "row", "others", "other"]) (sc := (defScope s_law_cover)) (by decide +kernel)) (fun _ _ _ _ _ => (pg_name (i := 5) sc_law_cover.nd rfl (Or.inl rfl))) (fun _ _ _ _ _ => (pts_one (pt_val (pe_fn D_law_wide_less (hr.mono (by decide)) rfl (pa_cons (pv 5) (pa_cons (pv 3) pa_nil)))))) (fun _ _ _ _ _ => (pv 5))) pa_nil)) (pa_cons (pv 3) pa_nil)))))
 pss_nil)))))
 (pss_one (ps_ret (pv 1))))), ?_⟩
  refine ⟨szc 0, fun o no => ?_⟩
  dsimp only [gName]
  refine ⟨_, rfl, a, _, rfl, .inl ((same_new no).seq ha), xs.length, rfl, by omega, by omega, for_range (lo := 0) (n := xs.length) (fun i σ' H' => ∃ (ys : List V) (y2 y3 y4 : Option V), σ' = [some (.ref a), some (.ref o), y2, y3, y4, none] ∧ Same H H' ∧ H' o = some (.lst ys) ∧ DpAll K (Ho o H') ys (((es.take i).foldl (covStep es) []).map wD)) ⟨[], none, none, none, rfl, same_new no, upd_same, .nil⟩ ?_ ?_⟩
  · rintro i σ' H' hi ⟨ys, y2, y3, y4, rfl, sm, eo, dy⟩
    have hz : (0 : Int) + (i : Int) = (i : Int) := by omega
    have hrow : es[i]? = some (es[i]'(by omega)) := List.getElem?_eq_getElem (by omega)
    generalize es[i]'(by omega) = row at hrow
    obtain ⟨ur, hur, dur⟩ := dpa_map_at' hx hrow
    have okr := hw row (List.mem_of_getElem? hrow)
    rw [foldl_snoc hrow]
    have csub : ∀ x ∈ (es.take i).foldl (covStep es) [], x ∈ es := covSteps_sub es _ [] (fun x hx => nomatch hx) fun x hx => List.mem_of_mem_take hx
    have clen : ((es.take i).foldl (covStep es) []).length ≤ i := by
      have := covSteps_len es (es.take i) []
      rw [List.length_nil, Nat.zero_add, List.length_take] at this
      omega
    generalize (es.take i).foldl (covStep es) [] = cover at dy csub clen ⊢
    have yl := dpa_map_len dy
    dsimp only [gName]
    refine ⟨_, rfl, _, rfl, _, _, _, _, rfl, rfl, sm.seq ha, at_n hz hur, ?_⟩
    dsimp only [gName]
    refine ⟨_, rfl, a, rfl, ⟨_, sm.seq ha⟩, fun D nD => ?_⟩
    refine lc_filt (K := K) (fD := wD) (p := aboveW row) nD (sm.seq ha) (dpAll_mono sm hx) (by omega) (fun _ => rfl) (fun _ => rfl) (fun k r u Hx Q' hr' du sx q' => ?_) fun H2 zs s2 e2 d2 => ?_
    · have okk := hw r (List.mem_of_getElem? hr')
      refine ⟨_, rfl, _, rfl, _, _, du, dp_mono (sm.trans sx) dur, (wD_nc hS hB okk).shaped (by decide), (wD_nc hS hB okr).shaped (by decide), _, rfl, ?_⟩
      have q2 := q' _ (Same.refl _)
      unfold aboveW at q2
      rw [eqv_wD hS hB okr]
      have e1 : (!decide (r = row)) = decide (r ≠ row) := by
        by_cases e : r = row
        · rw [decide_eq_true e, decide_eq_false (fun z => z e)]; rfl
        · rw [decide_eq_false e, decide_eq_true e]; rfl
      rw [e1]
      cases hc : decide (r ≠ row) with
      | false =>
        rw [hc, Bool.false_and] at q2
        exact iteF q2
      | true =>
        rw [hc, Bool.true_and] at q2
        exact iteT ⟨_, rfl, _, rfl, u, ur, r.1, row.1, r.2, row.2, rfl, dp_wsit du, dp_wsit (dp_mono (sm.trans sx) dur), by rw [okk.1, okr.1], by rw [okr.1]; omega, ⟨_, rfl, q2⟩⟩
    have zl := dpa_map_len d2
    have sm2 := sm.trans s2
    have eo2 := s2 _ _ eo
    have dy2 := dpAll_mono (ho_same s2) dy
    have ncc : NcD (.list (cover.map wD)) ((N + 3) * cover.length + 1) 3 := by
      have gen : ∀ {rs : List Wn}, (∀ x ∈ rs, WB S N Bz x) → NcL (rs.map wD) ((N + 3) * rs.length) 2 := fun {rs} => by
        induction rs with
        | nil => intro _; exact .nil
        | cons r rs ih =>
          intro h
          exact (NcL.cons (wD_nc hS hB (h r List.mem_cons_self)) (ih fun x hx => h x (List.mem_cons_of_mem _ hx))).mono (by rw [List.length_cons, Nat.mul_succ]; omega) (Nat.le_refl _)
      exact (gen fun x hx => hw x (csub x hx)).lst
    have anyE : ((cover.map wD).any fun z => PyData.eqv z (wD row)) = decide (row ∈ cover) := by
      rw [Bool.eq_iff_iff, decide_eq_true_eq, List.any_eq_true]
      constructor
      · rintro ⟨z, hz, e⟩
        obtain ⟨r, hr, rfl⟩ := List.mem_map.mp hz
        rw [← wD_eqv_iff e]
        exact hr
      · intro h
        exact ⟨wD row, List.mem_map_of_mem h, (wD_nc hS hB okr).eqv⟩
    dsimp only [gName]
    refine ⟨_, rfl, D, _, rfl, .inl (sq e2), rfl, _, rfl, ?_⟩
    rw [int_eqE, zl]
    unfold covStep
    by_cases h0 : (es.filter (aboveW row)).length = 0
    · refine iteTx (decide_eq_true (by omega)) ?_
      refine ⟨_, rfl, _, rfl, _, _, dp_mono sm2 dur, .lst (sq eo2) (dpAll_mono ho_out dy2), (wD_nc hS hB okr).shaped (by decide), ncc.shaped (by decide), _, rfl, ?_⟩
      rw [anyE]
      by_cases hm : row ∈ cover
      · rw [if_neg (fun z => z.2 hm)]
        exact iteFx (by rw [decide_eq_true hm]; rfl) ⟨ys, _, _, _, rfl, sm2, eo2, dy2⟩
      · rw [if_pos ⟨h0, hm⟩]
        refine iteTx (by rw [decide_eq_false hm]; rfl) ?_
        refine ⟨_, rfl, .inl ⟨rfl, ys, sq eo2⟩, ?_⟩
        refine ⟨_, rfl, o, rfl, ⟨_, sq eo2⟩, fun D2 nD2 => ?_⟩
        refine lc_filt (K := K) (fD := wD) (p := fun x => lessW x.1 x.2 row.1 row.2) nD2 (sq eo2) (dpAll_mono ho_out dy2) (by omega) (fun _ => rfl) (fun _ => rfl) (fun k r u Hx Q' hr' du sx q' => ?_) fun H3 ws s3 e3 d3 => ?_
        · have okk := hw r (csub r (List.mem_of_getElem? hr'))
          exact ⟨_, rfl, _, rfl, u, ur, r.1, row.1, r.2, row.2, rfl, dp_wsit du, dp_wsit (dp_mono (sm2.trans sx) dur), by rw [okk.1, okr.1], by rw [okr.1]; omega, ⟨_, rfl, q' _ (Same.refl _)⟩⟩
        have wl := dpa_map_len d3
        have fl := List.length_filter_le (fun x => lessW x.1 x.2 row.1 row.2) cover
        refine ⟨D2, ws, rfl, .inl (sq e3), _, rfl, o, ys, _, ur, rfl, rfl, s3 _ _ eo2, szl (by omega), by omega, by omega, ?_⟩
        refine ⟨_, _, _, _, rfl, Same.mut (sm2.trans s3) no, upd_same, ?_⟩
        rw [wl]
        unfold covIns
        refine dpa_ins _ (dpAll_mono ((ho_same s3).trans ho_mut) dy2) (dp_mono (Same.trans ?_ ho_mut) dur)
        intro b u e
        unfold Ho
        rw [if_neg (fun z => by rw [z, no] at e; cases e)]
        exact (sm2.trans s3) _ _ e
    · rw [if_neg (fun z => h0 z.1)]
      exact iteFx (decide_eq_false (by omega)) (iteF ⟨ys, _, _, _, rfl, sm2, eo2, dy2⟩)
  · rintro σ' H' ⟨ys, y2, y3, y4, rfl, sm, eo, dy⟩
    rw [xl, List.take_length] at dy
    exact ⟨_, rfl, q H' o ys sm no eo dy⟩
end
section
variable {P : Program} {w : World} {K : PySem.W.Frag} {mg : Str → Option Value} {base : Heap} {CO CN : Addr}
theorem all_app_map {M : MT} {rs : List Wn} {f : Wn → Bool} : (([begW M] ++ rs.flatMap (succW M)).all f) = (f (begW M) && rs.all fun r => (succW M r).all f) := by
  rw [List.all_append, List.all_flatMap]
  simp
theorem fm_snocW {M : MT} {rs : List Wn} {i : Nat} {r : Wn} (h : rs[i]? = some r) : (rs.take (i + 1)).flatMap (succW M) = (rs.take i).flatMap (succW M) ++ succW M r := by
  rw [take_snoc h, List.flatMap_append]
  simp
abbrev s_law_closed : Stmt := topS 26
theorem sc_law_closed : FnScope ["machine", "members", "counts", "needed", "element", "move", "fresh", "row"] ["machine", "members"] (defScope s_law_closed) := ⟨rfl, rfl, rfl, by decide +kernel, rfl, by decide +kernel, by decide +kernel⟩
-- _law_closed slots: machine=0 members=1 counts=2 needed=3 element=4 move=5 fresh=6 row=7(cell) globals: list _law_wide_after len
def spLClosed (K : PySem.W.Frag) : Sp := fun vs H Q _ => ∃ (v : V) (a : Addr) (M : MT) (xs : List V) (rs : List Wn) (S N : Nat) (B : Int), vs = [v, .ref a] ∧ Dp K H v M.data ∧ SqL K H a xs ∧ DpAll K H xs (rs.map wD) ∧ (∀ m ∈ M.moves, m.Fit S N) ∧ M.cnts.length = N ∧ M.crew < N ∧ N ≤ 900 ∧ M.moves.length ≤ 100 ∧ rs.length ≤ 100 ∧ (∀ r ∈ rs, WB S N B r) ∧ ∀ H', Same H H' → Q (.bl (closedB M rs)) H'
set_option maxHeartbeats 2000000 in
theorem fd_law_closed {f : Addr} {fd : FuncData} (F : Fun K "_law_closed" "_law_closed" s_law_closed f fd) (m : mg "_law_closed" = some (.ref f)) (B : Bt mg) (D_law_wide_after : Fd P w K mg base "_law_wide_after" ["situation", "move"] 1 (spLWA K)) (D_law_wide_covers : Fd P w K mg base "_law_wide_covers" ["first", "second"] 1 (spLWCov K)) : Fd P w K mg base "_law_closed" ["machine", "members"] 2 (spLClosed K) := by
  refine ⟨f, fd, F.ok sc_law_closed (fun vs H Q E h => ?_) (fun cdv A outer s H vs Q E hr h => ?_), m, F.kp, F.binds (ps := ["machine", "members"]) fun _ _ _ _ _ _ us hl => match us, hl with | [_, _], _ => rfl⟩
  · obtain ⟨v, a, M, xs, rs, S, N, B, rfl, _⟩ := h
    rfl
  obtain ⟨v, a, M, xs, rs, S, N, Bz, rfl, hd, ha, hx, hf, hcl, hcr, hN, hml, hrl, hw, q⟩ := h
  obtain ⟨am, sv, ma, xm, rfl, ham, ⟨b, cb, rfl, hb, hcb⟩, hma, hxm⟩ := dp_mt hd
  have xml := dpa_map_len hxm
  have xl := dpa_map_len hx
  refine ⟨_, (pss_cons (ps_set (i := 2) sc_law_closed.nd rfl (Or.inl rfl) (pe_callTy (cList K) (by rfl) B.list (by decide +kernel) (pa_cons (pe_ix (ixT K) (pe_ix (ixT K) (pv 0) pe_int (fun _ _ => rfl)) pe_int (fun _ _ => rfl)) pa_nil)))
 (pss_cons (ps_asg pe_non (pg_sub (pv 2) (pe_ix (ixT K) (pv 0) pe_int (fun _ _ => rfl)) set_list))
 (pss_cons (ps_set (i := 3) sc_law_closed.nd rfl (Or.inl rfl) (pe_lst (pa_cons (pe_tup (pa_cons (pe_ix (ixT K) (pe_ix (ixT K) (pv 0) pe_int (fun _ _ => rfl)) pe_int (fun _ _ => rfl)) (pa_cons (pv 2) pa_nil))) pa_nil)))
 (pss_cons (ps_for PassesOwn.never rfl (piL K (pv 1)) (pg_name (i := 4) sc_law_closed.nd rfl (Or.inl rfl))
 (pss_one (ps_for PassesOwn.never rfl (piL K (pe_ix (ixT K) (pv 0) pe_int (fun _ _ => rfl))) (pg_name (i := 5) sc_law_closed.nd rfl (Or.inl rfl))
 (pss_cons (ps_set (i := 6) sc_law_closed.nd rfl (Or.inl rfl) (pe_fn D_law_wide_after (hr.mono (by decide)) rfl (pa_cons (pv 4) (pa_cons (pv 5) pa_nil))))
 (pss_one (ps_if (pt_cmpR op_notN (pv 6) pe_non (nomark _))
 (pss_one (ps_expr (peBm K PySem.F.plainAttrs_list PySem.F.slot_list_append PySem.F.type_list_append mt_append (pv 3) (pa_cons (pv 6) pa_nil))))
 pss_nil))))))
 (pss_cons (ps_for PassesOwn.never rfl (piL K (pv 3)) (pg_name (i := 7) sc_law_closed.nd rfl (Or.inr rfl))
 (pss_one (ps_if (pt_cmpR op_eq (pe_callB (cLen K) (by rfl) B.len PySem.boot_len (pa_cons (pe_lc (own := [("element", 4)]) (g := gName 4) (by rfl) sc_law_closed.nd (piL K (pv 1)) (blkOk_by (own := [("element", 4)]) (N := ["machine", "members", "counts", "needed", "element", "move", "fresh", "row"]) (sc := (defScope s_law_closed)) (by decide +kernel)) (fun _ _ _ _ _ => (pg_name (i := 4) sc_law_closed.nd rfl (Or.inl rfl))) (fun _ _ _ _ _ => (pts_one (pt_val (pe_fn D_law_wide_covers (hr.mono (by decide)) rfl (pa_cons (pv 4) (pa_cons (pv 7) pa_nil)))))) (fun _ _ _ _ _ => (pv 4))) pa_nil)) pe_int (nomark _))
 (pss_one (ps_ret pe_bl))
 pss_nil)))
 (pss_one (ps_ret pe_bl))))))), ?_⟩
  refine ⟨_, rfl, _, _, _, _, rfl, rfl, ham, atI_nat (j := 2) rfl, _, _, _, _, rfl, rfl, hb, atI_nat (j := 1) rfl, cb, _, rfl, .inl hcb, fun ca nca => ?_⟩
  dsimp only [gName]
  have s1 := same_new (o := HO.lst (M.cnts.map V.int)) nca
  rw [← map_oV_some]
  rw [← map_oV_some] at s1
  refine ⟨_, rfl, _, rfl, _, _, _, _, rfl, rfl, Same.seqT s1 ham, atI_nat (j := 3) rfl, ca, _, _, M.crew, rfl, rfl, upd_same, ixN_nat (by rw [List.length_map, List.length_map]; omega), ?_⟩
  rw [show V.non = oV none from rfl, ← List.map_set]
  have s2 : Same H (upd (upd H ca (.lst ((M.cnts.map some).map oV))) ca (.lst (((M.cnts.map some).set M.crew none).map oV))) := Same.mut s1 nca
  have e2 : (upd (upd H ca (.lst ((M.cnts.map some).map oV))) ca (.lst (((M.cnts.map some).set M.crew none).map oV))) ca = some (.lst (((M.cnts.map some).set M.crew none).map oV)) := upd_same
  generalize upd (upd H ca (.lst ((M.cnts.map some).map oV))) ca (.lst (((M.cnts.map some).set M.crew none).map oV)) = H2 at s2 e2 ⊢
  refine ⟨_, rfl, _, _, _, _, rfl, rfl, Same.seqT s2 ham, atI_nat (j := 2) rfl, _, _, _, _, rfl, rfl, Same.seqT s2 hb, atI_nat (j := 0) rfl, _, rfl, szc 2, fun t1 nt1 => ⟨szc 1, fun o no => ?_⟩⟩
  dsimp only [gName]
  have s23 := (same_new (o := HO.tup [nV M.sst, .ref ca]) nt1).trans (same_new (o := HO.lst [.ref t1]) no)
  have eo3 : (upd (upd H2 t1 (.tup [nV M.sst, .ref ca])) o (.lst [.ref t1])) o = some (.lst [.ref t1]) := upd_same
  have t1o : t1 ≠ o := fun e => by rw [← e, upd_same] at no; cases no
  have cao : ca ≠ o := fun e => by rw [← e, (same_new nt1) _ _ e2] at no; cases no
  have d3 : DpAll K (Ho o (upd (upd H2 t1 (.tup [nV M.sst, .ref ca])) o (.lst [.ref t1]))) [.ref t1] ([begW M].map wD) := by
    refine .cons (wsit_dp ⟨t1, ca, rfl, st ?_, sq ?_⟩) .nil
    · unfold Ho; rw [if_neg t1o]; exact (same_new no) _ _ upd_same
    · unfold Ho; rw [if_neg cao]; exact s23 _ _ e2
  have s03 := s2.trans s23
  have noH : H o = none := s2.free ((same_new nt1).free no)
  generalize upd (upd H2 t1 (.tup [nV M.sst, .ref ca])) o (.lst [.ref t1]) = H3 at s23 eo3 d3 s03 ⊢
  refine ⟨_, rfl, a, rfl, ⟨_, s03.seq ha⟩, for_list (xs := xs) (fun i σ' H' => ∃ (ys : List V) (y4 y5 y6 : Option V), σ' = [some (.ref am), some (.ref a), some (.ref ca), some (.ref o), y4, y5, y6, none] ∧ Same H H' ∧ H' o = some (.lst ys) ∧ DpAll K (Ho o H') ys (([begW M] ++ (rs.take i).flatMap (succW M)).map wD) ∧ ys.length ≤ 1 + 100 * i) ⟨[.ref t1], none, none, none, rfl, s03, eo3, d3, Nat.le_refl _⟩ ?_ ?_ ?_⟩
  · rintro i σ' H' _ ⟨ys, y4, y5, y6, rfl, sm, _⟩
    exact sm.seq ha
  · rintro i u σ' H' hu ⟨ys, y4, y5, y6, rfl, sm, eo, dy, yb⟩
    obtain ⟨r, hr', du⟩ := dpa_map_at hx hu
    have okr := hw r (List.mem_of_getElem? hr')
    have ilt := (List.getElem?_eq_some_iff.mp hr').1
    rw [fm_snocW hr', ← List.append_assoc]
    generalize [begW M] ++ (rs.take i).flatMap (succW M) = acc at dy ⊢
    dsimp only [gName]
    refine ⟨_, rfl, _, _, _, _, rfl, rfl, Same.seqT sm ham, atI_nat (j := 4) rfl, ma, rfl, ⟨_, sm.seq hma⟩, for_list (xs := xm) (fun j σ' H' => ∃ (ys : List V) (y5 y6 : Option V), σ' = [some (.ref am), some (.ref a), some (.ref ca), some (.ref o), some u, y5, y6, none] ∧ Same H H' ∧ H' o = some (.lst ys) ∧ DpAll K (Ho o H') ys ((acc ++ (((M.moves.take j).filter fun m => m.canW r.1 r.2).map fun m => ((m.ns : Int), m.aftW r.2))).map wD) ∧ ys.length ≤ 1 + 100 * i + j) ⟨ys, _, _, rfl, sm, eo, by rw [List.take_zero]; show DpAll K _ _ ((acc ++ []).map wD); rw [List.append_nil]; exact dy, yb⟩ ?_ ?_ ?_⟩
    · rintro j σ' H' _ ⟨ys, y5, y6, rfl, sj, _⟩
      exact sj.seq hma
    · rintro j um σ' H4 hum ⟨ys, y5, y6, rfl, sj, eo4, dy4, yb4⟩
      obtain ⟨mv, hmv, dum⟩ := dpa_map_at hxm hum
      have fit := hf mv (List.mem_of_getElem? hmv)
      have jlt := (List.getElem?_eq_some_iff.mp hmv).1
      rw [filter_snoc hmv]
      dsimp only [gName]
      refine ⟨_, rfl, _, rfl, u, um, r.1, r.2, mv, S, rfl, dp_wsit (dp_mono sj du), dp_mono sj dum, (by rw [okr.1]; exact fit), fun c hc i e => (okr.2.2.2 c hc i e).1, fun hc H5 s5 => ?_, fun hc H5 p s5 nw => ?_⟩
      · dsimp only [gName]
        refine ⟨_, rfl, rfl, _, rfl, iteFx rfl ⟨ys, _, _, rfl, sj.trans s5, s5 _ _ eo4, ?_, by omega⟩⟩
        rw [hc, if_neg (by decide), List.append_nil]
        exact dpAll_mono (ho_same s5) dy4
      · dsimp only [gName]
        obtain ⟨c5, n5, n5c, n5d, e5, e5c⟩ := nw
        have eo5 := s5 _ _ eo4
        have po : p ≠ o := fun e => by rw [e, eo4] at n5; cases n5
        have co : c5 ≠ o := fun e => by rw [e, eo4] at n5c; cases n5c
        refine ⟨_, rfl, rfl, _, rfl, iteTx rfl ⟨_, rfl, .inl ⟨rfl, ys, sq eo5⟩, _, rfl, o, ys, _, rfl, rfl, eo5, szl (by omega), ys ++ [.ref p], _, _, rfl, Same.mut (sj.trans s5) noH, upd_same, ?_, by rw [List.length_append]; show ys.length + 1 ≤ _; omega⟩⟩
        rw [hc, if_pos rfl]
        have esn : acc ++ ((((M.moves.take j).filter fun m => m.canW r.1 r.2) ++ [mv]).map fun m => ((m.ns : Int), m.aftW r.2)) = (acc ++ (((M.moves.take j).filter fun m => m.canW r.1 r.2).map fun m => ((m.ns : Int), m.aftW r.2))) ++ [((mv.ns : Int), mv.aftW r.2)] := by
          rw [List.map_append, ← List.append_assoc]
          rfl
        rw [esn, List.map_append]
        refine dpa_app (dpAll_mono ((ho_same s5).trans ho_mut) dy4) (.cons (dp_mono ho_mut (wsit_dp ⟨p, c5, rfl, st ?_, sq ?_⟩)) .nil)
        · unfold Ho; rw [if_neg po]; exact e5
        · unfold Ho; rw [if_neg co]; exact e5c
    · rintro σ' H4 ⟨ys, y5, y6, rfl, sj, eo4, dy4, yb4⟩
      rw [xml, List.take_length] at dy4
      exact ⟨ys, _, _, _, rfl, sj, eo4, dy4, by omega⟩
  · rintro σ' H' ⟨ys, y4, y5, y6, rfl, sm, eo, dy, yb⟩
    rw [xl, List.take_length] at dy
    have dy' := dpAll_mono ho_out dy
    have yl := dpa_map_len dy'
    have hlen : ∀ r ∈ [begW M] ++ rs.flatMap (succW M), r.2.length = N := fun r hr => by
      rcases List.mem_append.mp hr with h | h
      · rw [List.mem_singleton.mp h, begW_len]; exact hcl
      · obtain ⟨r0, h0, h1⟩ := List.mem_flatMap.mp h
        obtain ⟨mv, _, rfl⟩ := List.mem_map.mp h1
        exact (aftW_len mv r0.2).trans (hw r0 h0).1
    have fin : closedB M rs = ([begW M] ++ rs.flatMap (succW M)).all (cvd rs) := by rw [all_app_map]; rfl
    rw [fin] at q
    generalize [begW M] ++ rs.flatMap (succW M) = need at dy' yl hlen q
    refine ⟨_, rfl, o, rfl, ⟨_, sq eo⟩, for_list (xs := ys) (fun j σ' H2 => ∃ (y4 y7 : Option V), σ' = [some (.ref am), some (.ref a), some (.ref ca), some (.ref o), y4, y5, y6, y7] ∧ Same H' H2 ∧ (need.take j).all (cvd rs) = true) ⟨_, _, rfl, Same.refl _, rfl⟩ ?_ ?_ ?_⟩
    · rintro j σ' H2 _ ⟨y4, y7, rfl, sj, _⟩
      exact sj.seq (sq eo)
    · rintro j u σ' H4 hu ⟨y4, y7, rfl, sj, g⟩
      obtain ⟨x, hxj, du⟩ := dpa_map_at dy' hu
      have lx := hlen x (List.mem_of_getElem? hxj)
      have smj := sm.trans sj
      dsimp only [gName]
      refine ⟨_, rfl, a, rfl, ⟨_, smj.seq ha⟩, fun D nD => ?_⟩
      refine lc_filt (K := K) (fD := wD) (p := fun r => covW r.1 r.2 x.1 x.2) nD (smj.seq ha) (dpAll_mono smj hx) (by omega) (fun _ => rfl) (fun _ => rfl) (fun k r ur Hx Q' hr' dur sx q' => ?_) fun H5 zs s5 e5 d5 => ?_
      · have okr := hw r (List.mem_of_getElem? hr')
        exact ⟨_, rfl, _, rfl, ur, u, r.1, x.1, r.2, x.2, rfl, dp_wsit dur, dp_wsit (dp_mono (sj.trans sx) du), by rw [okr.1, lx], by rw [lx]; omega, ⟨_, rfl, q' _ (Same.refl _)⟩⟩
      have zl := dpa_map_len d5
      refine ⟨D, _, rfl, .inl (sq e5), rfl, _, rfl, ?_⟩
      rw [int_eqE, zl]
      cases hc : cvd rs x with
      | false =>
        have h0 := (filter_cvd rs x).mpr hc
        have q' := q _ (smj.trans s5)
        rw [all_no hxj hc] at q'
        exact iteTx (decide_eq_true (by omega)) q'
      | true =>
        have h0 : (rs.filter fun r => covW r.1 r.2 x.1 x.2).length ≠ 0 := fun z => by rw [(filter_cvd rs x).mp z] at hc; cases hc
        exact iteFx (decide_eq_false (by omega)) ⟨_, _, rfl, sj.trans s5, by rw [all_take hxj, g, hc]; rfl⟩
    · rintro σ' H4 ⟨y4, y7, rfl, sj, g⟩
      rw [yl, List.take_length] at g
      have q' := q _ (sm.trans sj)
      rw [g] at q'
      exact q'
abbrev s_law_refused : Stmt := topS 27
theorem sc_law_refused : FnScope ["machine", "members", "e"] ["machine", "members"] (defScope s_law_refused) := ⟨rfl, rfl, rfl, by decide +kernel, rfl, by decide +kernel, by decide +kernel⟩
-- _law_refused slots: machine=0 members=1 e=2 globals: is_closed NotPossible isinstance OutOfRange
def spLRefC (K : PySem.W.Frag) : Sp := fun vs H Q _ => ∃ (v x : V) (M : MT), vs = [v, x] ∧ Dp K H v M.data ∧ (∃ m ∈ M.moves, m.sh ≠ []) ∧ Q (.bl true) H
theorem fd_law_refused {f : Addr} {fd : FuncData} (F : Fun K "_law_refused" "_law_refused" s_law_refused f fd) (m : mg "_law_refused" = some (.ref f)) (B : Bt mg) (XO : ExcX K mg "OutOfRange" CO) (XN : ExcX K mg "NotPossible" CN) (nO : PySem.W.subIn K (.ref CN) (.ref CO) = some false)
    (DX_is_closed : FdX P w K mg base "is_closed" ["machine", "chosen"] 2 (spIsClosedX K CN)) : Fd P w K mg base "_law_refused" ["machine", "members"] 3 (spLRefC K) := by
  refine ⟨f, fd, F.ok sc_law_refused (fun vs H Q E h => ?_) (fun cdv A outer s H vs Q E hr h => ?_), m, F.kp, F.binds (ps := ["machine", "members"]) fun _ _ _ _ _ _ us hl => match us, hl with | [_, _], _ => rfl⟩
  · obtain ⟨v, x, M, rfl, _⟩ := h
    rfl
  obtain ⟨v, x, M, rfl, hd, hn, q⟩ := h
  refine ⟨_, pss_cons (ps_try_as (i := 2) (tb := fun W => tDrop (tCallS (spIsClosedX K CN) (WE W) (tCons (tVar 0) (tCons (tVar 1) tNil)))) (ts := fun a cls d => tRet (tNotV (isTE K a cls d 2 (tC (.ref CO))))) (Wout := fun _ _ _ _ => False) rfl rfl sc_law_refused.nd rfl rfl ⟨rfl, by decide, .inl XN.gC⟩ takes0
      (fun W pn xe tk _ => pss_one (ps_expr (by exact (pe_fnX DX_is_closed (hr.mono (by decide)) rfl tk (pa_cons (pv 0) (pa_cons (pv 1) pa_nil))))))
      (fun a oe cls d pn hz hf => pss_one (ps_ret (by exact (pe_not (pe_callB (call_isEx hz hf) (by rfl) B.isinstance (by decide +kernel) (pa_cons (pv 2) (pa_cons (pe_glob rfl XO.gC rfl) pa_nil))))))))
    (pss_one (ps_ret pe_bl)), ?_⟩
  refine ⟨_, rfl, _, rfl, v, x, M, rfl, hd, hn, true, exm_own XN XN.self, fun _ a0 na => ?_, fun z => nomatch z⟩
  exact ⟨_, rfl, CN, false, rfl, rfl, XN.is, ⟨_, rfl, q⟩, .inl ⟨_, _, rfl, .own _, kit_sub XN XO nO⟩⟩
end
section
variable {P : Program} {w : World} {K : PySem.W.Frag} {mg : Str → Option Value} {base : Heap} {CO CN : Addr}
def rowsD (rs : List Wn) : PyData := .list (rs.map wD)
def RsOk (S N : Nat) (rs : List Wn) : Prop := rs.length ≤ 40 ∧ ∀ r ∈ rs, WB S N 50 r
theorem rsOk_nc {S N : Nat} (hS : S ≤ 900) {rs : List Wn} (h : RsOk S N rs) : NcD (rowsD rs) ((N + 3) * rs.length + 1) 3 := by
  have gen : ∀ {rs : List Wn}, (∀ x ∈ rs, WB S N 50 x) → NcL (rs.map wD) ((N + 3) * rs.length) 2 := fun {rs} => by
    induction rs with
    | nil => intro _; exact .nil
    | cons r rs ih =>
      intro h
      exact (NcL.cons (wD_nc hS (by decide) (h r List.mem_cons_self)) (ih fun x hx => h x (List.mem_cons_of_mem _ hx))).mono (by rw [List.length_cons, Nat.mul_succ]; omega) (Nat.le_refl _)
  exact (gen h.2).lst
theorem RsOk.app {S N : Nat} {a b : List Wn} (ha : ∀ r ∈ a, WB S N 50 r) (hb : ∀ r ∈ b, WB S N 50 r) (hl : a.length + b.length ≤ 40) : RsOk S N (a ++ b) := ⟨by rw [List.length_append]; exact hl, fun r hr => by
  rcases List.mem_append.mp hr with h | h
  · exact ha r h
  · exact hb r h⟩
theorem dpr {K : PySem.W.Frag} {H : Hp} {v : V} {rs : List Wn} (h : Dp K H v (rowsD rs)) : ∃ a xs, v = .ref a ∧ SqL K H a xs ∧ DpAll K H xs (rs.map wD) := dp_lst h
theorem rdp {K : PySem.W.Frag} {H : Hp} {a : Addr} {xs : List V} {rs : List Wn} (h : SqL K H a xs) (d : DpAll K H xs (rs.map wD)) : Dp K H (.ref a) (rowsD rs) := .lst h d
/-- a new list with the items of two lists of rows -/
theorem dp_cat {K : PySem.W.Frag} {H : Hp} {p : Addr} {xs ys : List V} {as bs : List Wn} (np : H p = none) (d1 : DpAll K H xs (as.map wD)) (d2 : DpAll K H ys (bs.map wD)) : Dp K (upd H p (.lst (xs ++ ys))) (.ref p) (rowsD (as ++ bs)) := by
  refine rdp (sq upd_same) ?_
  rw [List.map_append]
  exact dpa_app (dpAll_mono (same_new np) d1) (dpAll_mono (same_new np) d2)
def evW (S N : Nat) : List Wn := (List.range S).map fun (s : Nat) => ((s : Int), List.replicate N none)
theorem rep_oV (N : Nat) : List.replicate N V.non = (List.replicate N (none : Option Int)).map oV := by rw [List.map_replicate]; rfl
/-- lists.append(cover[:at] + [(cover[at][0], counts)] + cover[at + 1:]) -/
theorem app_row {σ : L2.St} {H : Hp} {D : Ends} {la pc cl : Addr} {at0 N : Nat} {xc ls : List V} {cov : List Wn} {rss : List (List Wn)} {row : Wn} {cs : List (Option Int)} {P : Hp → Prop}
    (e5 : σ[5]? = some (some (.ref la))) (e7 : σ[7]? = some (some (.ref pc))) (e8 : σ[8]? = some (some (.int (at0 : Int)))) (e9 : σ[9]? = some (some (.ref cl)))
    (hla : H la = some (.lst ls)) (ll : ls.length ≤ 20) (dl : DpAll K (Ho la H) ls (rss.map rowsD)) (hpc : Ho la H pc = some (.lst xc)) (dc : DpAll K (Ho la H) xc (cov.map wD)) (lc : cov.length ≤ 12) (hrow : cov[at0]? = some row) (hcl : Ho la H cl = some (.lst (cs.map oV)))
    (q : ∀ G r, Same H G → DpAll K (Ho la (upd G la (.lst (ls ++ [.ref r])))) (ls ++ [.ref r]) ((rss ++ [cov.take at0 ++ [(row.1, cs)] ++ cov.drop (at0 + 1)]).map rowsD) → D.nx σ (upd G la (.lst (ls ++ [.ref r])))) :
    tDrop (tBM K "list" rAppend (tVar 5) (tCons (tOp (rCatS K) (tOp (rCatS K) (tSl (rSlL K) (tVar 7) tNoPart (tPart (tVar 8))) (tLst (tCons (tTup (tCons (tOp (rIxT K) (tOp (rIxL K) (tVar 7) (tVar 8)) (tC (.int 0))) (tCons (tVar 9) tNil))) tNil))) (tSl (rSlL K) (tVar 7) (tPart (tOp (rI0 fun i j => .int (i + j)) (tVar 8) (tC (.int 1)))) tNoPart)) tNil)) D σ H := by
  have hpc' := ho_out _ _ hpc
  have hcl' := ho_out _ _ hcl
  have dc' := dpAll_mono ho_out dc
  have xcl := dpa_map_len dc
  obtain ⟨ur, hur, dur⟩ := dpa_map_at' dc' hrow
  obtain ⟨ra, rc, rfl, hra, hrc⟩ := dp_wsit dur
  have e1a : ((at0 : Int) + 1) = ((at0 + 1 : Nat) : Int) := by omega
  have cutD : cutV xc (some ((at0 : Int) + 1)) none = xc.drop (at0 + 1) := by rw [e1a]; exact cut_dropG xc (at0 + 1)
  have pcl : pc ≠ la := fun e => by unfold Ho at hpc; rw [if_pos e] at hpc; cases hpc
  have cll : cl ≠ la := fun e => by unfold Ho at hcl; rw [if_pos e] at hcl; cases hcl
  refine ⟨_, e5, .inl ⟨rfl, _, sq hla⟩, ?_⟩
  refine ⟨_, e7, _, e8, _, rfl, pc, xc, rfl, sq hpc', fun r2 m2 => ?_⟩
  rw [cut_takeG xc at0]
  have t2 := same_new (o := HO.lst (xc.take at0)) m2
  refine ⟨_, e7, _, e8, _, _, _, _, rfl, rfl, sq (t2 _ _ hpc'), atI_nat hur, _, _, _, _, rfl, rfl, Same.seqT t2 hra, atI_nat (j := 0) rfl, _, e9, szc 2, fun t3 m3 => ⟨szc 1, fun r3 m3' => ?_⟩⟩
  have t3s := (t2.trans (same_new (o := HO.tup [V.int row.1, .ref cl]) m3)).trans (same_new (o := HO.lst [V.ref t3]) m3')
  refine ⟨r2, r3, xc.take at0, [.ref t3], rfl, rfl, sq ((same_new m3') _ _ ((same_new m3) _ _ upd_same)), sq upd_same, sz (by rw [List.length_take]; show _ + 1 ≤ _; omega), fun r4 m4 => ?_⟩
  have t4 := t3s.trans (same_new (o := HO.lst (xc.take at0 ++ [V.ref t3])) m4)
  refine ⟨_, e7, _, e8, _, _, rfl, rfl, _, rfl, pc, xc, rfl, sq (t4 _ _ hpc'), fun r5 m5 => ?_⟩
  rw [cutD]
  have t5 := t4.trans (same_new (o := HO.lst (xc.drop (at0 + 1))) m5)
  refine ⟨r4, r5, xc.take at0 ++ [.ref t3], xc.drop (at0 + 1), rfl, rfl, sq ((same_new m5) _ _ upd_same), sq upd_same, sz (by rw [List.length_append, List.length_take, List.length_drop]; show _ + 1 + _ ≤ _; omega), fun r6 m6 => ?_⟩
  have t6 := t5.trans (same_new (o := HO.lst (xc.take at0 ++ [V.ref t3] ++ xc.drop (at0 + 1))) m6)
  have hla6 := t6 _ _ hla
  refine ⟨la, ls, _, rfl, rfl, hla6, szl (by omega), ?_⟩
  refine q _ r6 t6 ?_
  have shm : Same (Ho la H) (Ho la (upd (upd (upd (upd (upd (upd (upd H r2 (.lst (xc.take at0))) t3 (.tup [V.int row.1, .ref cl])) r3 (.lst [V.ref t3])) r4 (.lst (xc.take at0 ++ [V.ref t3]))) r5 (.lst (xc.drop (at0 + 1)))) r6 (.lst (xc.take at0 ++ [V.ref t3] ++ xc.drop (at0 + 1)))) la (.lst (ls ++ [.ref r6])))) := (ho_same t6).trans ho_mut
  have r6l : r6 ≠ la := fun e => by rw [e, t5 _ _ hla] at m6; cases m6
  have t3l : t3 ≠ la := fun e => by rw [e, t2 _ _ hla] at m3; cases m3
  have et3 := (((same_new (o := HO.lst [V.ref t3]) m3').trans (same_new (o := HO.lst (xc.take at0 ++ [V.ref t3])) m4)).trans ((same_new (o := HO.lst (xc.drop (at0 + 1))) m5).trans (same_new (o := HO.lst (xc.take at0 ++ [V.ref t3] ++ xc.drop (at0 + 1))) m6))) _ _ (upd_same (H := upd H r2 (.lst (xc.take at0))) (a := t3) (o := .tup [V.int row.1, .ref cl]))
  rw [List.map_append]
  refine dpa_app (dpAll_mono shm dl) (.cons (rdp (xs := xc.take at0 ++ [V.ref t3] ++ xc.drop (at0 + 1)) (sq ?_) ?_) .nil)
  · unfold Ho; rw [if_neg r6l, upd_ne r6l]; exact upd_same
  · have dcm := dpAll_mono shm dc
    rw [List.map_append, List.map_append, List.map_take, List.map_drop]
    refine dpa_app (dpa_app (dpa_takeG at0 dcm) (.cons (wsit_dp ⟨t3, cl, rfl, st ?_, sq (shm _ _ hcl)⟩) .nil)) (dpa_dropG (at0 + 1) dcm)
    unfold Ho
    rw [if_neg t3l, upd_ne t3l]
    exact et3
/-- a value by a test, the same way on -/
theorem tIf_by {t : TT} {ta tb : TE} {σ : L2.St} {H : Hp} {Q : VK} {b : Bool} {v : V} (ht : Ans t σ H b) (h : if b = true then Val ta σ H v else Val tb σ H v) (q : Q v H) : tIf t ta tb σ H Q := ht _ (by
  cases b with
  | true => exact iteT (h _ q)
  | false => exact iteF (h _ q))
end
section
variable {P : Program} {w : World} {K : PySem.W.Frag} {mg : Str → Option Value} {base : Heap} {CO CN : Addr}
abbrev s_law : Stmt := topS 28
theorem sc_law : FnScope ["script", "machine", "first", "free", "every", "lists", "found", "cover", "at", "counts", "place", "members", "kept", "told", "move", "shifted", "moves", "other", "state", "count"] ["script"] (defScope s_law) := ⟨rfl, rfl, rfl, by decide +kernel, rfl, by decide +kernel, by decide +kernel⟩
-- law slots: script=0 machine=1(cell) first=2 free=3 every=4 lists=5 found=6 cover=7 at=8 counts=9 place=10 members=11 kept=12 told=13 move=14 shifted=15 moves=16 other=17 state=18(None) count=19(None) globals: _law_machine _law_cell _law_digits _law_wide_some range _law_explored _law_cover len list repr is_closed isinstance bool _law_closed _law_refused
def spLaw (K : PySem.W.Frag) : Sp := fun vs H Q _ => ∃ (a : Addr) (ns : List Int), vs = [.ref a] ∧ SqL K H a (ns.map V.int) ∧ ns.length ≤ 63 ∧ ∀ H', Q (.bl true) H'
set_option maxHeartbeats 4000000 in
theorem fd_law {f : Addr} {fd : FuncData} (F : Fun K "law" "law" s_law f fd) (m : mg "law" = some (.ref f)) (bind : ∀ (s : Shared) (v : Value), BindsTo s fd ⟨[v], []⟩ [("script", v)]) (B : Bt mg)
    (D_law_cell : Fd P w K mg base "_law_cell" ["script", "k"] 1 (spCellP K)) (D_law_digits : Fd P w K mg base "_law_digits" ["cell", "base", "most"] 1 (spDigits K)) (D_law_machine : Fd P w K mg base "_law_machine" ["first", "second"] 2 (spWMach K)) (D_law_wide_some : Fd P w K mg base "_law_wide_some" ["cell", "states", "places", "many", "most"] 2 (spWSome K))
    (D_law_explored : Fd P w K mg base "_law_explored" ["machine", "fuel"] 2 (spExpl K)) (D_law_cover : Fd P w K mg base "_law_cover" ["explored"] 3 (spLCover K)) (D_law_closed : Fd P w K mg base "_law_closed" ["machine", "members"] 2 (spLClosed K)) (D_law_refused : Fd P w K mg base "_law_refused" ["machine", "members"] 3 (spLRefC K)) (D_is_closed : Fd P w K mg base "is_closed" ["machine", "chosen"] 3 (spIsClosed K)) :
    TopOk P w K mg base f (spLaw K) := by
  refine top_ok (k := 4) F sc_law (by refine ⟨rfl, ?_, ?_⟩ <;> decide +kernel) bind fun cdv s H a Q hr h => ?_
  obtain ⟨a1, ns, ea, hs, hl, q⟩ := h
  cases ea
  refine ⟨_, (pss_cons (ps_set (i := 1) sc_law.nd rfl (Or.inr rfl) (pe_fn D_law_machine (hr.mono (by decide)) rfl (pa_cons (pe_fn D_law_cell (hr.mono (by decide)) rfl (pa_cons (pv 0) (pa_cons pe_int pa_nil))) (pa_cons (pe_fn D_law_cell (hr.mono (by decide)) rfl (pa_cons (pv 0) (pa_cons pe_int pa_nil))) pa_nil))))
 (pss_cons (ps_set (i := 2) sc_law.nd rfl (Or.inl rfl) (pe_fn D_law_digits (hr.mono (by decide)) rfl (pa_cons (pe_fn D_law_cell (hr.mono (by decide)) rfl (pa_cons (pv 0) (pa_cons pe_int pa_nil))) (pa_cons pe_int (pa_cons pe_int pa_nil)))))
 (pss_cons (ps_set (i := 3) sc_law.nd rfl (Or.inl rfl) (pe_fn D_law_wide_some (hr.mono (by decide)) rfl (pa_cons (pe_fn D_law_cell (hr.mono (by decide)) rfl (pa_cons (pv 0) (pa_cons pe_int pa_nil))) (pa_cons (pe_ix (ixT K) (pv 1) pe_int (fun _ _ => rfl)) (pa_cons (pe_ix (ixT K) (pv 1) pe_int (fun _ _ => rfl)) (pa_cons (pe_op op_mod (pe_ix (ixL K) (pv 2) pe_int (fun _ _ => rfl)) pe_int) (pa_cons pe_int pa_nil)))))))
 (pss_cons (ps_setLc (i := 4) (own := [("state", 18)]) (g := gName 18) (by rfl) sc_law.nd rfl rfl (sw_true rfl rfl rfl (by decide +kernel)) (pi_range1 rfl B.range (pa_cons (pe_ix (ixT K) (pv 1) pe_int (fun _ _ => rfl)) pa_nil)) (blkOk_by (own := [("state", 18)]) (N := ["script", "machine", "first", "free", "every", "lists", "found", "cover", "at", "counts", "place", "members", "kept", "told", "move", "shifted", "moves", "other", "state", "count"]) (sc := (defScope s_law)) (by decide +kernel)) (fun _ _ _ _ _ => (pg_name (i := 18) sc_law.nd rfl (Or.inl rfl))) (fun _ _ _ _ _ => pts_nil) (fun _ _ _ _ _ => (pe_tup (pa_cons (pv 18) (pa_cons (pe_op op_rep (pe_lst (pa_cons pe_non pa_nil)) (pe_ix (ixT K) (pv 1) pe_int (fun _ _ => rfl))) pa_nil)))))
 (pss_cons (ps_set (i := 5) sc_law.nd rfl (Or.inl rfl) (pe_lst (pa_cons (pv 3) (pa_cons (pv 4) (pa_cons (pe_lst pa_nil) (pa_cons (pe_op (opCat K) (pe_slice (slL K) (pv 4) po_none (po_some pe_int)) (pv 3)) pa_nil))))))
 (pss_cons (ps_set (i := 6) sc_law.nd rfl (Or.inl rfl) (pe_fn D_law_explored (hr.mono (by decide)) rfl (pa_cons (pv 1) (pa_cons pe_int pa_nil))))
 (C8.pss_cut (ps_if (pt_cmpR op_notN (pv 6) pe_non (nomark _))
 (pss_cons (ps_set (i := 7) sc_law.nd rfl (Or.inl rfl) (pe_fn D_law_cover (hr.mono (by decide)) rfl (pa_cons (pv 6) pa_nil)))
 (pss_cons (ps_set (i := 8) sc_law.nd rfl (Or.inl rfl) (pe_op op_mod (pe_ix (ixL K) (pv 2) pe_int (fun _ _ => rfl)) (pe_callB (cLen K) (by rfl) B.len PySem.boot_len (pa_cons (pv 7) pa_nil))))
 (pss_cons (ps_set (i := 9) sc_law.nd rfl (Or.inl rfl) (pe_callTy (cList K) (by rfl) B.list (by decide +kernel) (pa_cons (pe_ix (ixT K) (pe_ix (ixL K) (pv 7) (pv 8) (fun _ _ => rfl)) pe_int (fun _ _ => rfl)) pa_nil)))
 (pss_cons (ps_set (i := 10) sc_law.nd rfl (Or.inl rfl) (pe_op op_mod (pe_ix (ixL K) (pv 2) pe_int (fun _ _ => rfl)) (pe_ix (ixT K) (pv 1) pe_int (fun _ _ => rfl))))
 (pss_cons (ps_asg (pe_ifExp (pt_cmpR op_notN (pe_ix (ixL K) (pv 9) (pv 10) (fun _ _ => rfl)) pe_non (nomark _)) pe_non (pe_op op_mod (pe_ix (ixL K) (pv 2) pe_int (fun _ _ => rfl)) pe_int)) (pg_sub (pv 9) (pv 10) set_list))
 (pss_cons (ps_set (i := 5) sc_law.nd rfl (Or.inl rfl) (pe_op (opCat K) (pv 5) (pe_lst (pa_cons (pv 7) (pa_cons (pe_op (opCat K) (pv 7) (pv 3)) (pa_cons (pe_op (opCat K) (pe_slice (slL K) (pv 7) po_none (po_some (pv 8))) (pe_slice (slL K) (pv 7) (po_some (pe_op op_add (pv 8) pe_int)) po_none)) (pa_cons (pv 6) pa_nil)))))))
 (pss_cons (ps_expr (peBm K PySem.F.plainAttrs_list PySem.F.slot_list_append PySem.F.type_list_append mt_append (pv 5) (pa_cons (pe_op (opCat K) (pe_op (opCat K) (pe_slice (slL K) (pv 7) po_none (po_some (pv 8))) (pe_lst (pa_cons (pe_tup (pa_cons (pe_ix (ixT K) (pe_ix (ixL K) (pv 7) (pv 8) (fun _ _ => rfl)) pe_int (fun _ _ => rfl)) (pa_cons (pv 9) pa_nil))) pa_nil))) (pe_slice (slL K) (pv 7) (po_some (pe_op op_add (pv 8) pe_int)) po_none)) pa_nil)))
 (pss_cons (ps_setLc (i := 9) (own := [("count", 19)]) (g := gName 19) (by rfl) sc_law.nd rfl rfl (sw_true rfl rfl rfl (by decide +kernel)) (piL K (pe_ix (ixT K) (pe_ix (ixL K) (pv 7) (pv 8) (fun _ _ => rfl)) pe_int (fun _ _ => rfl))) (blkOk_by (own := [("count", 19)]) (N := ["script", "machine", "first", "free", "every", "lists", "found", "cover", "at", "counts", "place", "members", "kept", "told", "move", "shifted", "moves", "other", "state", "count"]) (sc := (defScope s_law)) (by decide +kernel)) (fun _ _ _ _ _ => (pg_name (i := 19) sc_law.nd rfl (Or.inl rfl))) (fun _ _ _ _ _ => pts_nil) (fun _ _ _ _ _ => (pe_ifExp (pt_cmpR op_isN (pv 19) pe_non (nomark _)) pe_int (pe_callB (call_max2 rfl) (by rfl) B.max (by decide +kernel) (pa_cons pe_int (pa_cons (pe_op op_sub (pv 19) pe_int) pa_nil))))))
 (pss_one (ps_expr (peBm K PySem.F.plainAttrs_list PySem.F.slot_list_append PySem.F.type_list_append mt_append (pv 5) (pa_cons (pe_op (opCat K) (pe_op (opCat K) (pe_slice (slL K) (pv 7) po_none (po_some (pv 8))) (pe_lst (pa_cons (pe_tup (pa_cons (pe_ix (ixT K) (pe_ix (ixL K) (pv 7) (pv 8) (fun _ _ => rfl)) pe_int (fun _ _ => rfl)) (pa_cons (pv 9) pa_nil))) pa_nil))) (pe_slice (slL K) (pv 7) (po_some (pe_op op_add (pv 8) pe_int)) po_none)) pa_nil))))))))))))
 pss_nil)
 (pss_cons (ps_for PassesOwn.never rfl (piL K (pv 5)) (pg_name (i := 11) sc_law.nd rfl (Or.inl rfl))
 (pss_cons (ps_set (i := 12) sc_law.nd rfl (Or.inl rfl) (pe_callB (cRepr K rfl hr.units) (by rfl) B.repr (by decide +kernel) (pa_cons (pe_lst (pa_cons (pv 1) (pa_cons (pv 11) pa_nil))) pa_nil)))
 (pss_cons (ps_set (i := 13) sc_law.nd rfl (Or.inl rfl) (pe_fn D_is_closed (hr.mono (by decide)) rfl (pa_cons (pv 1) (pa_cons (pv 11) pa_nil))))
 (pss_one (ps_if (PW.pt (pw_or (pt_not (pt_val (pe_callB (cIsi K) (by rfl) B.isinstance (by decide +kernel) (pa_cons (pv 13) (pa_cons (pe_bltn (v := .ty "bool") (by rfl) B.bool (by decide +kernel) rfl) pa_nil))))) (pw_or (pt_cmpR op_ne (pv 13) (pe_fn D_law_closed (hr.mono (by decide)) rfl (pa_cons (pv 1) (pa_cons (pv 11) pa_nil))) (nomark _)) (pw_or1 (pt_cmpR op_ne (pe_callB (cRepr K rfl hr.units) (by rfl) B.repr (by decide +kernel) (pa_cons (pe_lst (pa_cons (pv 1) (pa_cons (pv 11) pa_nil))) pa_nil)) (pv 12) (nomark _))))))
 (pss_one (ps_ret pe_bl))
 pss_nil)))))
 (pss_cons (ps_if (pt_cmpR op_gt (pe_ix (ixT K) (pv 1) pe_int (fun _ _ => rfl)) pe_int (nomark _))
 (pss_cons (ps_set (i := 14) sc_law.nd rfl (Or.inl rfl) (pe_ix (ixL K) (pe_ix (ixT K) (pv 1) pe_int (fun _ _ => rfl)) pe_int (fun _ _ => rfl)))
 (pss_cons (ps_set (i := 15) sc_law.nd rfl (Or.inl rfl) (pe_tup (pa_cons (pe_ix (ixT K) (pv 14) pe_int (fun _ _ => rfl)) (pa_cons (pe_ix (ixT K) (pv 14) pe_int (fun _ _ => rfl)) (pa_cons (pe_ix (ixT K) (pv 14) pe_int (fun _ _ => rfl)) (pa_cons (pe_ix (ixT K) (pv 14) pe_int (fun _ _ => rfl)) (pa_cons (pe_ix (ixT K) (pv 14) pe_int (fun _ _ => rfl)) (pa_cons (pe_lst (pa_cons (pe_tup (pa_cons pe_int (pa_cons pe_int pa_nil))) pa_nil)) pa_nil))))))))
 (pss_cons (ps_set (i := 8) sc_law.nd rfl (Or.inl rfl) (pe_op op_mod (pe_op op_fdiv (pe_ix (ixL K) (pv 2) pe_int (fun _ _ => rfl)) pe_int) (pe_op op_add (pe_callB (cLen K) (by rfl) B.len PySem.boot_len (pa_cons (pe_ix (ixT K) (pv 1) pe_int (fun _ _ => rfl)) pa_nil)) pe_int)))
 (pss_cons (ps_set (i := 16) sc_law.nd rfl (Or.inl rfl) (pe_op (opCat K) (pe_op (opCat K) (pe_slice (slL K) (pe_ix (ixT K) (pv 1) pe_int (fun _ _ => rfl)) po_none (po_some (pv 8))) (pe_lst (pa_cons (pv 15) pa_nil))) (pe_slice (slL K) (pe_ix (ixT K) (pv 1) pe_int (fun _ _ => rfl)) (po_some (pv 8)) po_none)))
 (pss_cons (ps_set (i := 17) sc_law.nd rfl (Or.inl rfl) (pe_tup (pa_cons (pe_ix (ixT K) (pv 1) pe_int (fun _ _ => rfl)) (pa_cons (pe_ix (ixT K) (pv 1) pe_int (fun _ _ => rfl)) (pa_cons (pe_ix (ixT K) (pv 1) pe_int (fun _ _ => rfl)) (pa_cons (pe_ix (ixT K) (pv 1) pe_int (fun _ _ => rfl)) (pa_cons (pv 16) pa_nil)))))))
 (pss_one (ps_ret (pe_and (pe_fn D_law_refused (hr.mono (by decide)) rfl (pa_cons (pv 17) (pa_cons (pv 4) pa_nil))) (pe_and (pe_fn D_law_refused (hr.mono (by decide)) rfl (pa_cons (pv 17) (pa_cons (pe_lst pa_nil) pa_nil))) (pe_one (pe_fn D_law_refused (hr.mono (by decide)) rfl (pa_cons (pv 17) (pa_cons (pv 3) pa_nil)))))))))))))
 pss_nil)
 (pss_one (ps_ret pe_bl))))))))))), ?_⟩
  refine ⟨_, rfl, a, ns, 0, rfl, hs, fun z0 hz0 => ⟨_, rfl, a, ns, 1, rfl, hs, fun z1 hz1 => ⟨z0, z1, rfl, hz0, hz1, fun H1 v M s1 dM ok sh0 => ?_⟩⟩⟩
  dsimp only [gName]
  have p2 := ok.p2
  have s2' := ok.s2
  have s1' := ok.s1
  have p1' := ok.p1
  obtain ⟨am, sv, ma, xm, rfl, ham, hsit, hma, hxm⟩ := dp_mt dM
  have xml := dpa_map_len hxm
  have hml := ok.ml
  have fitM : ∀ m ∈ M.moves, m.Fit M.states M.places := ok.fit
  refine ⟨_, rfl, a, ns, 2, rfl, s1.seq hs, fun z2 hz2 => ⟨z2, 2520, 4, rfl, hz2, by decide, by decide, by decide, fun H2 pd ds s2 npd ed ld hd => ?_⟩⟩
  dsimp only [gName]
  have sd := sq (K := K) ed
  have d0 : ∀ {i : Nat}, i < 4 → 0 ≤ ds.getD i 0 := fun h => (hd _ (gd_mem (by omega))).1
  have ham2 := Same.seqT s2 ham
  obtain ⟨fm, efm⟩ : ∃ n : Nat, ds.getD 0 0 % 5 = (n : Int) := ⟨_, (Int.toNat_of_nonneg (mod_in (ds.getD 0 0) (show (0 : Int) < 5 by decide)).1).symm⟩
  have hfm : fm ≤ 4 := by have := mod_in (ds.getD 0 0) (show (0 : Int) < 5 by decide); omega
  refine ⟨_, rfl, a, ns, 3, rfl, (s1.trans s2).seq hs, fun z3 hz3 => ⟨_, rfl, _, _, _, _, rfl, rfl, ham2, atI_nat (j := 0) rfl, _, rfl, _, _, _, _, rfl, rfl, ham2, atI_nat (j := 1) rfl, _, rfl, _, _, _, _, rfl, rfl, sd, at_gd (j := 0) rfl (by omega), _, _, rfl, rfl, (by show (0 : Int) < 5; decide), z3, M.states, M.places, fm, 2, congrArg (fun z => [V.int z3, nV M.states, nV M.places, V.int z, V.int 2]) efm, hz3, ok.s1, by omega, by omega, by decide, fun H3 pf xf fr s3 npf ef df lf okf => ?_⟩⟩
  dsimp only [gName]
  have s13 := s2.trans s3
  have dM3 := dp_mono s13 dM
  have sd3 := s3.seq sd
  have ham3 := Same.seqT s3 ham2
  have hma3 := s13.seq hma
  have hxm3 := dpAll_mono s13 hxm
  have dF3 : Dp K H3 (.ref pf) (rowsD fr) := rdp (sq ef) (dpAll_mono ho_out df)
  have wF : ∀ r ∈ fr, WB M.states M.places 50 r := fun r hr => by
    obtain ⟨h1, h2, h3, h4⟩ := okf r hr
    exact ⟨h1, h2, h3, fun c hc i e => by have := h4 c hc i e; omega⟩
  clear df ef npf ed npd ham ham2 hma hxm dM hsit s13 s2 s3 sd
  -- every
  refine ⟨_, rfl, _, _, _, _, rfl, rfl, ham3, atI_nat (j := 0) rfl, M.states, rfl, by omega, by omega, fun D nD => lc_range (lo := 0) (n := M.states) (fun i H' => Same H3 H' ∧ ∃ ys, H' D = some (.lst ys) ∧ DpAll K (Ho D H') ys (((List.range i).map fun (s : Nat) => ((s : Int), List.replicate M.places (none : Option Int))).map wD)) ⟨same_new nD, [], upd_same, .nil⟩ ?_ ?_⟩
  · rintro i H' hi ⟨sm, ys, eD, dy⟩
    have hz : (0 : Int) + (i : Int) = (i : Int) := by omega
    have yl := dpa_map_len dy
    rw [List.length_map, List.length_range] at yl
    refine ⟨rfl, _, rfl, szc 1, fun p2 n2 => ⟨_, rfl, _, _, _, _, rfl, rfl, Same.seqT (sm.trans (same_new n2)) ham3, atI_nat (j := 1) rfl, p2, _, _, rfl, rfl, upd_same, by omega, by omega, sz (by show 1 * M.places ≤ _; omega), fun p3 n3 => ⟨szc 2, fun t nt => ?_⟩⟩⟩
    rw [rep_one, show ((M.places : Int)).toNat = M.places from rfl, rep_oV, hz]
    rw [rep_one, show ((M.places : Int)).toNat = M.places from rfl, rep_oV] at nt
    have sx := (same_new (o := HO.lst [V.non]) n2).trans ((same_new (o := HO.lst ((List.replicate M.places (none : Option Int)).map oV)) n3).trans (same_new (o := HO.tup [V.int (i : Int), V.ref p3]) nt))
    have eD2 := sx _ _ eD
    have p3D : p3 ≠ D := fun e => by rw [e, (same_new n2) _ _ eD] at n3; cases n3
    have tD : t ≠ D := fun e => by rw [e, (same_new n3) _ _ ((same_new n2) _ _ eD)] at nt; cases nt
    refine ⟨ys, eD2, szl (by omega), Same.mut (sm.trans sx) nD, ys ++ [.ref t], upd_same, ?_⟩
    rw [List.range_succ, List.map_append, List.map_append]
    refine dpa_app (dpAll_mono ((ho_same sx).trans ho_mut) dy) (.cons (dp_mono ho_mut (wsit_dp ⟨t, p3, rfl, st ?_, sq ?_⟩)) .nil)
    · unfold Ho; rw [if_neg tD]; exact upd_same
    · unfold Ho; rw [if_neg p3D]; exact (same_new nt) _ _ upd_same
  rintro H4 ⟨s4, xe, eD, de⟩
  change DpAll K (Ho D H4) xe ((evW M.states M.places).map wD) at de
  have wE : ∀ r ∈ evW M.states M.places, WB M.states M.places 50 r := fun r hr => by
    obtain ⟨i, hi, rfl⟩ := List.mem_map.mp hr
    have hi := List.mem_range.mp hi
    refine ⟨List.length_replicate, by show (0 : Int) ≤ (i : Int); omega, by show (i : Int) < _; omega, fun c hc j e => ?_⟩
    rw [List.eq_of_mem_replicate hc] at e
    cases e
  have lE : (evW M.states M.places).length = M.states := by unfold evW; rw [List.length_map, List.length_range]
  have de4 := dpAll_mono ho_out de
  have dE4 : Dp K H4 (.ref D) (rowsD (evW M.states M.places)) := rdp (sq eD) de4
  generalize evW M.states M.places = ev at wE lE de4 dE4
  clear de
  have dM4 := dp_mono s4 dM3
  have dF4 := dp_mono s4 dF3
  have sd4 := s4.seq sd3
  dsimp only [gName]
  obtain ⟨pfa, pfx, epf, hpf, dpf⟩ := dpr dF4
  cases epf
  have pfl := dpa_map_len dpf
  have xel := dpa_map_len de4
  -- lists
  refine ⟨_, rfl, _, rfl, szc 0, fun l0 n0 => ⟨_, rfl, 1, rfl, D, _, rfl, sq ((same_new n0) _ _ eD), fun q1 m1 => ⟨_, rfl, q1, pf, _, _, rfl, rfl, sq upd_same, ((same_new n0).trans (same_new m1)).seq hpf, sz (by
    rw [show cutV xe none (some 1) = xe.take 1 from cut_takeG xe 1, List.length_take]
    omega), fun q2 m2 => ⟨szc 4, fun la nla => ?_⟩⟩⟩⟩
  rw [show cutV xe none (some 1) = xe.take 1 from cut_takeG xe 1]
  rw [show cutV xe none (some 1) = xe.take 1 from cut_takeG xe 1] at m2 nla
  have s47 := (same_new (o := HO.lst []) n0).trans ((same_new (o := HO.lst (xe.take 1)) m1).trans ((same_new (o := HO.lst (xe.take 1 ++ pfx)) m2).trans (same_new (o := HO.lst [.ref pf, .ref D, .ref l0, .ref q2]) nla)))
  have d07 : Dp K (upd (upd (upd (upd H4 l0 (.lst [])) q1 (.lst (xe.take 1))) q2 (.lst (xe.take 1 ++ pfx))) la (.lst [.ref pf, .ref D, .ref l0, .ref q2])) (.ref l0) (rowsD []) := rdp (sq (((same_new m1).trans ((same_new m2).trans (same_new nla))) _ _ upd_same)) .nil
  have d27 : Dp K (upd (upd (upd (upd H4 l0 (.lst [])) q1 (.lst (xe.take 1))) q2 (.lst (xe.take 1 ++ pfx))) la (.lst [.ref pf, .ref D, .ref l0, .ref q2])) (.ref q2) (rowsD (ev.take 1 ++ fr)) := by
    refine dp_mono (same_new nla) (dp_cat m2 (dpAll_mono ((same_new n0).trans (same_new m1)) ?_) (dpAll_mono ((same_new n0).trans (same_new m1)) dpf))
    rw [List.map_take]
    exact dpa_takeG 1 de4
  have ela : (upd (upd (upd (upd H4 l0 (.lst [])) q1 (.lst (xe.take 1))) q2 (.lst (xe.take 1 ++ pfx))) la (.lst [.ref pf, .ref D, .ref l0, .ref q2])) la = some (.lst [.ref pf, .ref D, .ref l0, .ref q2]) := upd_same
  generalize upd (upd (upd (upd H4 l0 (.lst [])) q1 (.lst (xe.take 1))) q2 (.lst (xe.take 1 ++ pfx))) la (.lst [.ref pf, .ref D, .ref l0, .ref q2]) = H7 at s47 d07 d27 ela ⊢
  dsimp only [gName]
  have dM7 := dp_mono s47 dM4
  have dF7 := dp_mono s47 dF4
  have dE7 := dp_mono s47 dE4
  have sd7 := s47.seq sd4
  have dls : DpAll K H7 [.ref pf, .ref D, .ref l0, .ref q2] ([fr, ev, [], ev.take 1 ++ fr].map rowsD) := .cons dF7 (.cons dE7 (.cons d07 (.cons d27 .nil)))
  have okls : ∀ rs ∈ [fr, ev, [], ev.take 1 ++ fr], RsOk M.states M.places rs := fun rs hrs => by
    rcases List.mem_cons.mp hrs with rfl | hrs
    · exact ⟨by omega, wF⟩
    rcases List.mem_cons.mp hrs with rfl | hrs
    · exact ⟨by omega, wE⟩
    rcases List.mem_cons.mp hrs with rfl | hrs
    · exact ⟨by decide, fun r hr => nomatch hr⟩
    rw [List.mem_singleton.mp hrs]
    exact RsOk.app (fun r hr => wE r (List.mem_of_mem_take hr)) wF (by rw [List.length_take]; omega)
  have hbeg : WB M.states M.places 2 (begW M) := by
    refine ⟨by rw [begW_len]; exact ok.cl, by show (0 : Int) ≤ (M.sst : Int); omega, by show (M.sst : Int) < (M.states : Int); have := ok.ss; omega, fun c hc i e => ?_⟩
    change c ∈ (M.cnts.map some).set M.crew none at hc
    rcases List.mem_or_eq_of_mem_set hc with hm | rfl
    · obtain ⟨z, hz, rfl⟩ := List.mem_map.mp hm
      cases e
      have := ok.cb i hz
      omega
    · cases e
  clear d07 d27 de4 dE4 dpf hpf
  -- the search
  refine ⟨_, rfl, .ref am, M, M.states, M.places, 40, 12, rfl, dM7, fitM, ok.cl, ok.cr, by omega, hml, by decide, by decide, hbeg, fun H8 v8 s8 h8 => ?_⟩
  dsimp only [gName]
  have okl4 : [fr, ev, [], ev.take 1 ++ fr].length = 4 := rfl
  generalize [fr, ev, [], ev.take 1 ++ fr] = rss0 at dls okls okl4
  have l4 : ([.ref pf, .ref D, .ref l0, .ref q2] : List V).length = 4 := rfl
  generalize ([.ref pf, .ref D, .ref l0, .ref q2] : List V) = ls0 at dls ela l4
  refine ⟨fun σ' H' => ∃ (la : Addr) (ls : List V) (rss : List (List Wn)) (y6 y7 y8 y9 y10 : Option V), σ' = [some (.ref a), some (.ref am), some (.ref pd), some (.ref pf), some (.ref D), some (.ref la), y6, y7, y8, y9, y10, none, none, none, none, none, none, none, none, none] ∧ Same H7 H' ∧ H' la = some (.lst ls) ∧ DpAll K H' ls (rss.map rowsD) ∧ (∀ rs ∈ rss, RsOk M.states M.places rs) ∧ rss.length ≤ 20, ?_, ?_⟩
  · refine ⟨_, rfl, rfl, _, rfl, ?_⟩
    rcases h8 with ⟨n8, qs8, es8, rfl, _⟩ | ⟨p8, ys8, n8, es, rfl, np8, e8, d8, hit8, hle, hne, wb8⟩
    · exact iteFx rfl ⟨la, _, _, _, _, _, _, _, rfl, s8, s8 _ _ ela, dpAll_mono s8 dls, okls, by omega⟩
    refine iteTx rfl ?_
    have wb : ∀ r ∈ es, WB M.states M.places 50 r := fun r hr => (wb8 r hr).mono (by omega)
    have d8' := dpAll_mono ho_out d8
    have dfo : Dp K H8 (.ref p8) (rowsD es) := rdp (sq e8) d8'
    refine ⟨_, rfl, p8, ys8, es, M.states, M.places, 50, rfl, sq e8, d8', wb, by omega, by omega, by decide, by omega, fun H9 pc xc s9 npc ec dc => ?_⟩
    dsimp only [gName]
    have wc : ∀ r ∈ coverL es, WB M.states M.places 50 r := fun r hr => wb r (coverL_sub es r hr)
    have lc := coverL_len es
    have nc := coverL_ne (n := M.places) (fun r hr => (wb r hr).1) hne
    generalize coverL es = cov at dc wc lc nc
    have dc9 := dpAll_mono ho_out dc
    have xcl := dpa_map_len dc9
    have lpos : 0 < cov.length := List.length_pos_iff.mpr nc
    have s79 := s8.trans s9
    have dfo9 := dp_mono s9 dfo
    have sd9 := s79.seq sd7
    have dM9 := dp_mono s79 dM7
    have dF9 := dp_mono s79 dF7
    have ela9 := s79 _ _ ela
    have dls9 := dpAll_mono s79 dls
    clear dc dfo d8 d8' e8 np8
    obtain ⟨at0, eat⟩ : ∃ n : Nat, ds.getD 1 0 % ((cov.length : Nat) : Int) = (n : Int) := ⟨_, (Int.toNat_of_nonneg (mod_in (ds.getD 1 0) (by omega)).1).symm⟩
    have hat : at0 < cov.length := by have := mod_in (ds.getD 1 0) (show (0 : Int) < ((cov.length : Nat) : Int) by omega); omega
    refine ⟨_, rfl, _, _, _, _, rfl, rfl, sd9, at_gd (j := 1) rfl (by omega), _, rfl, pc, _, rfl, .inl (sq ec), _, _, rfl, rfl, (by show (0 : Int) < ((xc.length : Nat) : Int); omega), ?_⟩
    dsimp only [gName]
    rw [xcl, eat]
    have hrow : cov[at0]? = some (cov[at0]'hat) := List.getElem?_eq_getElem hat
    generalize cov[at0]'hat = row at hrow
    have okrow := wc row (List.mem_of_getElem? hrow)
    obtain ⟨ur, hur, dur⟩ := dpa_map_at' dc9 hrow
    obtain ⟨ra, rc, rfl, hra, hrc⟩ := dp_wsit dur
    refine ⟨_, rfl, _, rfl, _, _, _, _, rfl, rfl, sq ec, atI_nat hur, _, _, _, _, rfl, rfl, hra, atI_nat (j := 1) rfl, rc, _, rfl, .inl hrc, fun cl ncl => ?_⟩
    dsimp only [gName]
    obtain ⟨plc, epl⟩ : ∃ n : Nat, ds.getD 2 0 % ((M.places : Nat) : Int) = (n : Int) := ⟨_, (Int.toNat_of_nonneg (mod_in (ds.getD 2 0) (by omega)).1).symm⟩
    have hpl : plc < M.places := by have := mod_in (ds.getD 2 0) (show (0 : Int) < ((M.places : Nat) : Int) by omega); omega
    have sA := same_new (o := HO.lst (row.2.map oV)) ncl
    obtain ⟨am9, sv9, ma9, xm9, eam, ham9, _, hma9, hxm9⟩ := dp_mt dM9
    cases eam
    refine ⟨_, rfl, _, _, _, _, rfl, rfl, sA.seq sd9, at_gd (j := 2) rfl (by omega), _, rfl, _, _, _, _, rfl, rfl, Same.seqT sA ham9, atI_nat (j := 1) rfl, _, _, rfl, rfl, (show (0 : Int) < ((M.places : Nat) : Int) by omega), ?_⟩
    dsimp only [gName]
    rw [epl]
    have ac := at_gdO (ds := row.2) (i := (plc : Int)) rfl (by rw [okrow.1]; exact hpl)
    have v3 := mod_in (ds.getD 3 0) (show (0 : Int) < 3 by decide)
    obtain ⟨o, ho, hob⟩ : ∃ o : Option Int, o = (if (row.2.getD plc none).isNone = true then some (ds.getD 3 0 % 3) else none) ∧ ∀ i, o = some i → 0 ≤ i ∧ i ≤ 50 := ⟨_, rfl, fun i e => by
      split at e
      · have := Option.some.inj e; omega
      · cases e⟩
    refine tIf_by (b := !(row.2.getD plc none).isNone) (v := oV o) (fun Q' q' => ⟨_, rfl, _, rfl, _, _, _, _, rfl, rfl, sq upd_same, ac, rfl, _, rfl, by rw [oV_non]; exact q'⟩) ?_ ?_
    · rw [ho]
      cases (row.2.getD plc none).isNone with
      | true => exact fun Q' q' => ⟨_, rfl, _, _, _, _, rfl, rfl, sA.seq sd9, at_gd (j := 3) rfl (by omega), _, _, rfl, rfl, (by show (0 : Int) < 3; decide), q'⟩
      | false => exact fun Q' q' => q'
    clear ho ac
    refine ⟨_, rfl, _, rfl, cl, _, _, plc, rfl, rfl, upd_same, ixN_nat (by rw [List.length_map, okrow.1]; exact hpl), ?_⟩
    rw [← List.map_set]
    have wset : WB M.states M.places 50 (row.1, row.2.set plc o) := ⟨by show (row.2.set plc o).length = _; rw [List.length_set]; exact okrow.1, okrow.2.1, okrow.2.2.1, fun c hc i e => by
      rcases List.mem_or_eq_of_mem_set hc with h | rfl
      · exact okrow.2.2.2 c h i e
      · exact hob i e⟩
    generalize row.2.set plc o = cs1 at wset
    have sB : Same H9 (upd (upd H9 cl (.lst (row.2.map oV))) cl (.lst (cs1.map oV))) := Same.mut sA ncl
    have ecl : (upd (upd H9 cl (.lst (row.2.map oV))) cl (.lst (cs1.map oV))) cl = some (.lst (cs1.map oV)) := upd_same
    generalize upd (upd H9 cl (.lst (row.2.map oV))) cl (.lst (cs1.map oV)) = HB at sB ecl ⊢
    have ecB := sB _ _ ec
    have dcB := dpAll_mono sB dc9
    have dFB := dp_mono sB dF9
    obtain ⟨pfa, pfx, epf, hpf, dpf⟩ := dpr dFB
    cases epf
    have pfl := dpa_map_len dpf
    have dfoB := dp_mono sB dfo9
    have hra' := Same.seqT sB hra
    have cutT : ∀ {zs : List V}, cutV zs none (some (at0 : Int)) = zs.take at0 := fun {zs} => cut_takeG zs at0
    have e1a : ((at0 : Int) + 1) = ((at0 + 1 : Nat) : Int) := by omega
    have cutD : ∀ {zs : List V}, cutV zs (some ((at0 : Int) + 1)) none = zs.drop (at0 + 1) := fun {zs} => by rw [e1a]; exact cut_dropG zs (at0 + 1)
    have dT : ∀ {G : Hp}, Same HB G → DpAll K G (xc.take at0) ((cov.take at0).map wD) := fun s => by rw [List.map_take]; exact dpa_takeG at0 (dpAll_mono s dcB)
    have dD : ∀ {G : Hp}, Same HB G → DpAll K G (xc.drop (at0 + 1)) ((cov.drop (at0 + 1)).map wD) := fun s => by rw [List.map_drop]; exact dpa_dropG (at0 + 1) (dpAll_mono s dcB)
    have lT : (xc.take at0).length ≤ 12 := by rw [List.length_take]; omega
    have lD : (xc.drop (at0 + 1)).length ≤ 12 := by rw [List.length_drop]; omega
    -- lists + [..]
    refine ⟨_, rfl, _, rfl, _, rfl, _, rfl, pc, pf, xc, pfx, rfl, rfl, sq ecB, hpf, sz (by omega), fun r1 m1 => ?_⟩
    refine ⟨_, rfl, _, rfl, _, rfl, pc, xc, rfl, (same_new m1).seq (sq ecB), fun r2 m2 => ?_⟩
    rw [cutT]
    have t12 := (same_new (o := HO.lst (xc ++ pfx)) m1).trans (same_new (o := HO.lst (xc.take at0)) m2)
    refine ⟨_, rfl, _, rfl, _, _, rfl, rfl, _, rfl, pc, xc, rfl, t12.seq (sq ecB), fun r3 m3 => ?_⟩
    rw [cutD]
    have t13 := t12.trans (same_new (o := HO.lst (xc.drop (at0 + 1))) m3)
    refine ⟨r2, r3, xc.take at0, xc.drop (at0 + 1), rfl, rfl, sq ((same_new m3) _ _ upd_same), sq upd_same, sz (by omega), fun r4 m4 => ?_⟩
    have t14 := t13.trans (same_new (o := HO.lst (xc.take at0 ++ xc.drop (at0 + 1))) m4)
    refine ⟨_, rfl, szc 4, fun r5 m5 => ?_⟩
    have t15 := t14.trans (same_new (o := HO.lst [.ref pc, .ref r1, .ref r4, .ref p8]) m5)
    have dr1 : Dp K (upd (upd (upd (upd (upd HB r1 (.lst (xc ++ pfx))) r2 (.lst (xc.take at0))) r3 (.lst (xc.drop (at0 + 1)))) r4 (.lst (xc.take at0 ++ xc.drop (at0 + 1)))) r5 (.lst [.ref pc, .ref r1, .ref r4, .ref p8])) (.ref r1) (rowsD (cov ++ fr)) := dp_mono (((same_new m2).trans (same_new m3)).trans ((same_new m4).trans (same_new m5))) (dp_cat m1 dcB dpf)
    have dr4 : Dp K (upd (upd (upd (upd (upd HB r1 (.lst (xc ++ pfx))) r2 (.lst (xc.take at0))) r3 (.lst (xc.drop (at0 + 1)))) r4 (.lst (xc.take at0 ++ xc.drop (at0 + 1)))) r5 (.lst [.ref pc, .ref r1, .ref r4, .ref p8])) (.ref r4) (rowsD (cov.take at0 ++ cov.drop (at0 + 1))) := dp_mono (same_new m5) (dp_cat m4 (dT t13) (dD t13))
    have e5 : (upd (upd (upd (upd (upd HB r1 (.lst (xc ++ pfx))) r2 (.lst (xc.take at0))) r3 (.lst (xc.drop (at0 + 1)))) r4 (.lst (xc.take at0 ++ xc.drop (at0 + 1)))) r5 (.lst [.ref pc, .ref r1, .ref r4, .ref p8])) r5 = some (.lst [.ref pc, .ref r1, .ref r4, .ref p8]) := upd_same
    generalize upd (upd (upd (upd (upd HB r1 (.lst (xc ++ pfx))) r2 (.lst (xc.take at0))) r3 (.lst (xc.drop (at0 + 1)))) r4 (.lst (xc.take at0 ++ xc.drop (at0 + 1)))) r5 (.lst [.ref pc, .ref r1, .ref r4, .ref p8]) = HC at t15 dr1 dr4 e5 ⊢
    clear t12 t13 t14 m1 m2 m3 m4 m5
    have s9C := sB.trans t15
    refine ⟨la, r5, ls0, [.ref pc, .ref r1, .ref r4, .ref p8], rfl, rfl, sq (s9C _ _ ela9), sq e5, sz (by rw [l4]; exact (by decide : 4 + 4 ≤ 100000)), fun r6 m6 => ?_⟩
    dsimp only [gName]
    have t6 := same_new (o := HO.lst (ls0 ++ [.ref pc, .ref r1, .ref r4, .ref p8])) m6
    have lists6 : DpAll K (Ho r6 (upd HC r6 (.lst (ls0 ++ [.ref pc, .ref r1, .ref r4, .ref p8])))) (ls0 ++ [.ref pc, .ref r1, .ref r4, .ref p8]) ((rss0 ++ [cov, cov ++ fr, cov.take at0 ++ cov.drop (at0 + 1), es]).map rowsD) := by
      refine dpAll_mono (ho_first m6) ?_
      rw [List.map_append]
      exact dpa_app (dpAll_mono s9C dls9) (.cons (dp_mono t15 (rdp (sq ecB) dcB)) (.cons dr1 (.cons dr4 (.cons (dp_mono t15 dfoB) .nil))))
    have ecl6 := (t15.trans (ho_first (u := HO.lst (ls0 ++ [.ref pc, .ref r1, .ref r4, .ref p8])) m6)) _ _ ecl
    have ec6 := (t15.trans (ho_first (u := HO.lst (ls0 ++ [.ref pc, .ref r1, .ref r4, .ref p8])) m6)) _ _ ecB
    have dc6 := dpAll_mono (t15.trans (ho_first (u := HO.lst (ls0 ++ [.ref pc, .ref r1, .ref r4, .ref p8])) m6)) dcB
    have okls6 : ∀ rs ∈ rss0 ++ [cov, cov ++ fr, cov.take at0 ++ cov.drop (at0 + 1), es], RsOk M.states M.places rs := fun rs hrs => by
      rcases List.mem_append.mp hrs with h | hrs
      · exact okls rs h
      rcases List.mem_cons.mp hrs with rfl | hrs
      · exact ⟨by omega, wc⟩
      rcases List.mem_cons.mp hrs with rfl | hrs
      · exact RsOk.app wc wF (by omega)
      rcases List.mem_cons.mp hrs with rfl | hrs
      · exact RsOk.app (fun r hr => wc r (List.mem_of_mem_take hr)) (fun r hr => wc r (List.mem_of_mem_drop hr)) (by rw [List.length_take, List.length_drop]; omega)
      rw [List.mem_singleton.mp hrs]
      exact ⟨by omega, wb⟩
    have lr6 : (rss0 ++ [cov, cov ++ fr, cov.take at0 ++ cov.drop (at0 + 1), es]).length = 8 := by rw [List.length_append, okl4]; rfl
    have ll6 : (ls0 ++ ([.ref pc, .ref r1, .ref r4, .ref p8] : List V)).length = 8 := by rw [List.length_append, l4]; rfl
    generalize rss0 ++ [cov, cov ++ fr, cov.take at0 ++ cov.drop (at0 + 1), es] = rss1 at lists6 okls6 lr6
    generalize ls0 ++ ([.ref pc, .ref r1, .ref r4, .ref p8] : List V) = ls1 at t6 lists6 ll6 ecl6 ec6 dc6 ⊢
    have e6 : (upd HC r6 (.lst ls1)) r6 = some (.lst ls1) := upd_same
    have n9r6 : H9 r6 = none := s9C.free m6
    have s96 := s9C.trans t6
    generalize upd HC r6 (.lst ls1) = HD at t6 lists6 e6 s96 ecl6 ec6 dc6 ⊢
    clear dr1 dr4 e5 t15 m6 s9C t6
    refine app_row (la := r6) (pc := pc) (cl := cl) (N := M.places) (xc := xc) (ls := ls1) (cov := cov) (rss := rss1) (row := row) (cs := cs1) (P := fun _ => True) rfl rfl rfl rfl e6 (by omega) lists6 ec6 dc6 (by omega) hrow ecl6 fun G r7 tG lists7 => ?_
    dsimp only [tNext]
    have e7 : (upd G r6 (.lst (ls1 ++ [.ref r7]))) r6 = some (.lst (ls1 ++ [.ref r7])) := upd_same
    have sh7 : Same (Ho r6 HD) (Ho r6 (upd G r6 (.lst (ls1 ++ [.ref r7])))) := (ho_same tG).trans ho_mut
    have s97 : Same H9 (upd G r6 (.lst (ls1 ++ [.ref r7]))) := Same.mut (s96.trans tG) n9r6
    have ec7 := sh7 _ _ ec6
    have dc7 := dpAll_mono sh7 dc6
    generalize upd G r6 (.lst (ls1 ++ [.ref r7])) = HE at e7 sh7 s97 ec7 dc7 lists7 ⊢
    have ec7' := ho_out _ _ ec7
    have hra7 := Same.seqT s97 hra
    have hrc7 := s97.seq hrc
    have dur7 := dp_mono s97 dur
    refine ⟨_, rfl, _, rfl, _, _, _, _, rfl, rfl, sq ec7', atI_nat hur, _, _, _, _, rfl, rfl, hra7, atI_nat (j := 1) rfl, rc, rfl, ⟨_, hrc7⟩, fun D2 nD2 => lc_list (xs := row.2.map oV) (fun i H' => Same HE H' ∧ H' D2 = some (.lst (((row.2.take i).map fun c => some (match c with | none => (0 : Int) | some z => if z - 1 > 0 then z - 1 else 0)).map oV))) ⟨same_new nD2, upd_same⟩ (fun _ H' _ h => h.1.seq hrc7) ?_ ?_⟩
    · rintro i u H' hu ⟨sm, eD⟩
      obtain ⟨c, hc, rfl⟩ := get_map_inv hu
      have lt := (List.getElem?_eq_some_iff.mp hc).1
      rw [take_snoc hc, List.map_append, List.map_append]
      refine ⟨rfl, _, rfl, rfl, _, rfl, ?_⟩
      have hl : (((row.2.take i).map fun c => some (match c with | none => (0 : Int) | some z => if z - 1 > 0 then z - 1 else 0)).map oV).length < sizeLine := by
        rw [List.length_map, List.length_map, List.length_take]
        exact szl (by rw [okrow.1]; omega)
      cases c with
      | none => exact iteT ⟨_, eD, hl, Same.mut sm nD2, upd_same⟩
      | some z => exact iteF ⟨_, rfl, _, _, rfl, rfl, _, _, rfl, _, eD, hl, Same.mut sm nD2, upd_same⟩
    rintro HF ⟨sF, eF⟩
    rw [List.length_map, List.take_length] at eF
    have wset2 : ∀ c ∈ row.2.map (fun c => some (match c with | none => (0 : Int) | some z => if z - 1 > 0 then z - 1 else 0)), ∀ i, c = some i → 0 ≤ i ∧ i ≤ 50 := fun c hc i e => by
      obtain ⟨c0, h0, rfl⟩ := List.mem_map.mp hc
      have e' := Option.some.inj e
      cases c0 with
      | none => dsimp only at e'; omega
      | some z =>
        have := okrow.2.2.2 _ h0 z rfl
        dsimp only at e'
        split at e' <;> omega
    have lset2 : (row.2.map (fun c => some (match c with | none => (0 : Int) | some z => if z - 1 > 0 then z - 1 else 0))).length = M.places := by rw [List.length_map]; exact okrow.1
    generalize row.2.map (fun c => some (match c with | none => (0 : Int) | some z => if z - 1 > 0 then z - 1 else 0)) = cs2 at eF wset2 lset2
    dsimp only [gName]
    have D2n : D2 ≠ r6 := fun e => by rw [e, e7] at nD2; cases nD2
    refine app_row (la := r6) (pc := pc) (cl := D2) (N := M.places) (xc := xc) (ls := ls1 ++ [.ref r7]) (cov := cov) (rss := rss1 ++ [cov.take at0 ++ [(row.1, cs1)] ++ cov.drop (at0 + 1)]) (row := row) (cs := cs2) (P := fun _ => True) rfl rfl rfl rfl (sF _ _ e7) (by rw [List.length_append, ll6]; exact (by decide : 8 + 1 ≤ 20)) (dpAll_mono (ho_same sF) lists7) ((ho_same sF) _ _ ec7) (dpAll_mono (ho_same sF) dc7) (by omega) hrow (by unfold Ho; rw [if_neg D2n]; exact eF) fun G2 r8 tG2 lists8 => ?_
    refine ⟨r6, _, _, _, _, _, _, _, rfl, s79.trans (Same.mut ((s97.trans sF).trans tG2) n9r6), upd_same, dpAll_mono ho_out lists8, fun rs hrs => ?_, by rw [List.length_append, List.length_append, lr6]; exact (by decide : 8 + 1 + 1 ≤ 20)⟩
    have okr : ∀ {cs : List (Option Int)}, cs.length = M.places → (∀ c ∈ cs, ∀ i, c = some i → 0 ≤ i ∧ i ≤ 50) → RsOk M.states M.places (cov.take at0 ++ [(row.1, cs)] ++ cov.drop (at0 + 1)) := fun {cs} h1 h2 => by
      refine RsOk.app (fun r hr => ?_) (fun r hr => wc r (List.mem_of_mem_drop hr)) (by rw [List.length_append, List.length_take, List.length_drop]; show _ + 1 + _ ≤ _; omega)
      rcases List.mem_append.mp hr with h | h
      · exact wc r (List.mem_of_mem_take h)
      · rw [List.mem_singleton.mp h]; exact ⟨h1, okrow.2.1, okrow.2.2.1, h2⟩
    rcases List.mem_append.mp hrs with hrs | hrs
    · rcases List.mem_append.mp hrs with hrs | hrs
      · exact okls6 rs hrs
      · rw [List.mem_singleton.mp hrs]; exact okr wset.1 wset.2.2.2
    · rw [List.mem_singleton.mp hrs]; exact okr lset2 wset2
  clear okl4 l4 ela dls okls
  clear h8 s8
  rintro σ' HA ⟨la, ls, rss, y6, y7, y8, y9, y10, rfl, sA, ela, dls, okls, lrs⟩
  have lsl := dpa_map_len dls
  have base := sA
  -- the lists
  refine ⟨_, rfl, la, rfl, ⟨_, sq ela⟩, for_list (xs := ls) (fun i σ' H' => ∃ y11 y12 y13 : Option V, σ' = [some (.ref a), some (.ref am), some (.ref pd), some (.ref pf), some (.ref D), some (.ref la), y6, y7, y8, y9, y10, y11, y12, y13, none, none, none, none, none, none] ∧ Same HA H') ⟨_, _, _, rfl, Same.refl _⟩ ?_ ?_ ?_⟩
  · rintro i σ' H' _ ⟨y11, y12, y13, rfl, sm⟩
    exact sm.seq (sq ela)
  · rintro i u σ' H' hu ⟨y11, y12, y13, rfl, sm⟩
    obtain ⟨rs, hrs, du⟩ := dpa_map_at dls hu
    have okr := okls rs (List.mem_of_getElem? hrs)
    have s7m := sA.trans sm
    have dMm := dp_mono s7m dM7
    have dum := dp_mono sm du
    obtain ⟨ua, ux, rfl, hua, dux⟩ := dpr dum
    have shw : Shw (.list [M.data, rowsD rs]) := ((NcL.cons (mt0_nc ok sh0 (by decide)) (NcL.cons ((rsOk_nc (by omega) okr).mono (Nat.le_refl _) (show 3 ≤ 5 by decide)) (NcL.nil (c := 0)))).lst).shw (by
      have : (M.places + 3) * rs.length ≤ 11 * 40 := Nat.mul_le_mul (by omega) okr.1
      omega) (by decide)
    dsimp only [gName]
    refine ⟨_, rfl, _, rfl, szc 2, fun p np => ⟨p, _, rfl, .lst (sq upd_same) (.cons (dp_mono (same_new np) dMm) (.cons (dp_mono (same_new np) dum) .nil)), shw.sh, shw.nd, shw.de, shw.ln, ?_⟩⟩
    dsimp only [gName]
    have s6 := same_new (o := HO.lst [V.ref am, V.ref ua]) np
    generalize upd H' p (.lst [.ref am, .ref ua]) = H6 at s6 ⊢
    refine ⟨_, rfl, _, rfl, .ref am, ua, M, ux, rs, M.places, rfl, dp_mono s6 dMm, s6.seq hua, dpAll_mono s6 dux, sh0, fitM, ok.cl, ok.cr, by omega, fun r hr => (okr.2 r hr).1, fun Hc sc => ?_⟩
    dsimp only [gName]
    refine orA (ans_not (ansIsi (T := "bool") (b := true) (fun Q q => ⟨_, rfl, q⟩) (.base (.bl _)) (by decide +kernel))) ?_
    have s6c := s6.trans sc
    refine ⟨_, rfl, _, rfl, _, rfl, .ref am, ua, M, ux, rs, M.states, M.places, 50, rfl, dp_mono s6c dMm, s6c.seq hua, dpAll_mono s6c dux, fitM, ok.cl, ok.cr, by omega, by omega, by have := okr.1; omega, okr.2, fun Hd sd => ⟨rfl, _, rfl, ?_⟩⟩
    rw [nbM]
    refine iteF ?_
    have s6d := s6c.trans sd
    refine ⟨_, rfl, _, rfl, szc 2, fun p' np' => ⟨p', _, rfl, .lst (sq upd_same) (.cons (dp_mono (s6d.trans (same_new np')) dMm) (.cons (dp_mono (s6d.trans (same_new np')) dum) .nil)), shw.sh, shw.nd, shw.de, shw.ln, _, rfl, rfl, _, rfl, ?_⟩⟩
    rw [neM]
    refine iteF ?_
    exact ⟨_, _, _, rfl, sm.trans (s6d.trans (same_new np'))⟩
  · rintro σ' H' ⟨y11, y12, y13, rfl, sm⟩
    have s7m := sA.trans sm
    have dMm := dp_mono s7m dM7
    have sdm := s7m.seq sd7
    have dFm := dp_mono s7m dF7
    have dEm := dp_mono s7m dE7
    obtain ⟨am', sv', ma', xm', ee, ham', hsit', hma', hxm'⟩ := dp_mt dMm
    cases ee
    have xml' := dpa_map_len hxm'
    have hm1 := ok.m1
    have hmv : M.moves[0]? = some (M.moves[0]'(by omega)) := List.getElem?_eq_getElem (by omega)
    generalize M.moves[0]'(by omega) = mv at hmv
    obtain ⟨mvv, hv, dv⟩ := dpa_map_at' hxm' hmv
    obtain ⟨ma1, sa1, xs1, rfl, hmv1, _, _⟩ := dp_mv dv
    refine ⟨_, rfl, _, _, _, _, rfl, rfl, ham', atI_nat (j := 1) rfl, _, _, rfl, rfl, _, rfl, ite2 (fun e => ?_) (fun e => q _)⟩
    refine ⟨_, rfl, _, _, _, _, rfl, rfl, ham', atI_nat (j := 4) rfl, _, _, _, _, rfl, rfl, hma', atI_nat (j := 0) hv, ?_⟩
    dsimp only [gName]
    refine ⟨_, rfl, _, _, _, _, rfl, rfl, hmv1, atI_nat (j := 0) rfl, _, rfl, _, _, _, _, rfl, rfl, hmv1, atI_nat (j := 1) rfl, _, rfl, _, _, _, _, rfl, rfl, hmv1, atI_nat (j := 2) rfl, _, rfl, _, _, _, _, rfl, rfl, hmv1, atI_nat (j := 3) rfl, _, rfl, _, _, _, _, rfl, rfl, hmv1, atI_nat (j := 4) rfl, szc 2, fun t nt => ⟨szc 1, fun l nl => ⟨szc 6, fun sh nsh => ?_⟩⟩⟩
    dsimp only [gName]
    have u3 := (same_new (o := HO.tup [V.int 1, .int 0]) nt).trans ((same_new (o := HO.lst [V.ref t]) nl).trans (same_new (o := HO.tup [nV mv.st, nV mv.pl, nV mv.ns, nV mv.np, sdV mv.sd, .ref l]) nsh))
    have dsh : Dp K (upd (upd (upd H' t (.tup [V.int 1, .int 0])) l (.lst [V.ref t])) sh (.tup [nV mv.st, nV mv.pl, nV mv.ns, nV mv.np, sdV mv.sd, .ref l])) (.ref sh) ({ mv with sh := [(1, 0)] } : MvT).data :=
      .tup (st upd_same) (.cons (.int _) (.cons (.int _) (.cons (.int _) (.cons (.int _) (.cons (sd_dp _) (.cons (.lst (sq ((same_new nsh) _ _ upd_same)) (.cons (.tup (st ((same_new nsh) _ _ ((same_new nl) _ _ upd_same))) (.cons (.int 1) (.cons (.int 0) .nil))) .nil)) .nil))))))
    generalize upd (upd (upd H' t (.tup [V.int 1, .int 0])) l (.lst [V.ref t])) sh (.tup [nV mv.st, nV mv.pl, nV mv.ns, nV mv.np, sdV mv.sd, .ref l]) = HB at u3 dsh ⊢
    have hamB := Same.seqT u3 ham'
    have hmaB := u3.seq hma'
    have hxmB := dpAll_mono u3 hxm'
    have d30 := d0 (i := 3) (by omega)
    obtain ⟨a3, ea3⟩ : ∃ n : Nat, ds.getD 3 0 / 3 % (((xm'.length : Nat) : Int) + 1) = (n : Int) := ⟨_, (Int.toNat_of_nonneg (mod_in _ (by omega)).1).symm⟩
    refine ⟨_, rfl, _, _, _, _, rfl, rfl, u3.seq sdm, at_gd (j := 3) rfl (by omega), _, _, rfl, rfl, ⟨by decide, by decide⟩, _, rfl, _, _, _, _, rfl, rfl, hamB, atI_nat (j := 4) rfl, ma', _, rfl, .inl hmaB, _, _, rfl, rfl, _, _, rfl, rfl, (show (0 : Int) < ((xm'.length : Nat) : Int) + 1 by omega), ?_⟩
    dsimp only [gName]
    rw [ea3]
    have cutT : cutV xm' none (some (a3 : Int)) = xm'.take a3 := cut_takeG xm' a3
    have cutD : cutV xm' (some (a3 : Int)) none = xm'.drop a3 := cut_dropG xm' a3
    refine ⟨_, rfl, _, _, _, _, rfl, rfl, hamB, atI_nat (j := 4) rfl, _, rfl, _, rfl, ma', xm', rfl, hmaB, fun r1 m1 => ?_⟩
    rw [cutT]
    have v1 := same_new (o := HO.lst (xm'.take a3)) m1
    refine ⟨_, rfl, szc 1, fun r2 m2 => ?_⟩
    have v2 := v1.trans (same_new (o := HO.lst [V.ref sh]) m2)
    refine ⟨r1, r2, xm'.take a3, [.ref sh], rfl, rfl, sq ((same_new m2) _ _ upd_same), sq upd_same, sz (by rw [List.length_take]; show _ + 1 ≤ _; omega), fun r3 m3 => ?_⟩
    have v3 := v2.trans (same_new (o := HO.lst (xm'.take a3 ++ [V.ref sh])) m3)
    refine ⟨_, rfl, _, _, _, _, rfl, rfl, Same.seqT v3 hamB, atI_nat (j := 4) rfl, _, rfl, _, rfl, ma', xm', rfl, v3.seq hmaB, fun r4 m4 => ?_⟩
    rw [cutD]
    have v4 := v3.trans (same_new (o := HO.lst (xm'.drop a3)) m4)
    refine ⟨r3, r4, xm'.take a3 ++ [.ref sh], xm'.drop a3, rfl, rfl, sq ((same_new m4) _ _ upd_same), sq upd_same, sz (by rw [List.length_append, List.length_take, List.length_drop]; show _ + 1 + _ ≤ _; omega), fun r5 m5 => ?_⟩
    dsimp only [gName]
    have v5 := v4.trans (same_new (o := HO.lst (xm'.take a3 ++ [V.ref sh] ++ xm'.drop a3)) m5)
    have e5 : (upd (upd (upd (upd (upd HB r1 (.lst (xm'.take a3))) r2 (.lst [V.ref sh])) r3 (.lst (xm'.take a3 ++ [V.ref sh]))) r4 (.lst (xm'.drop a3))) r5 (.lst (xm'.take a3 ++ [V.ref sh] ++ xm'.drop a3))) r5 = some (.lst (xm'.take a3 ++ [V.ref sh] ++ xm'.drop a3)) := upd_same
    generalize upd (upd (upd (upd (upd HB r1 (.lst (xm'.take a3))) r2 (.lst [V.ref sh])) r3 (.lst (xm'.take a3 ++ [V.ref sh]))) r4 (.lst (xm'.drop a3))) r5 (.lst (xm'.take a3 ++ [V.ref sh] ++ xm'.drop a3)) = HC at v5 e5 ⊢
    have hamC := Same.seqT v5 hamB
    refine ⟨_, rfl, _, _, _, _, rfl, rfl, hamC, atI_nat (j := 0) rfl, _, rfl, _, _, _, _, rfl, rfl, hamC, atI_nat (j := 1) rfl, _, rfl, _, _, _, _, rfl, rfl, hamC, atI_nat (j := 2) rfl, _, rfl, _, _, _, _, rfl, rfl, hamC, atI_nat (j := 3) rfl, _, rfl, szc 5, fun ot not' => ?_⟩
    dsimp only [gName]
    have w1 := same_new (o := HO.tup [nV M.states, nV M.places, sv', nV M.crew, .ref r5]) not'
    have dO : Dp K (upd HC ot (.tup [nV M.states, nV M.places, sv', nV M.crew, .ref r5])) (.ref ot) (MT.mk M.states M.places M.sst M.cnts M.crew (M.moves.take a3 ++ [{ mv with sh := [(1, 0)] }] ++ M.moves.drop a3)).data := by
      have uC := (u3.trans v5).trans w1
      refine .tup (st upd_same) (.cons (.int _) (.cons (.int _) (.cons (sit_dp (Same.sit uC hsit')) (.cons (.int _) (.cons (.lst (sq (w1 _ _ e5)) ?_) .nil)))))
      have hxC := dpAll_mono (v5.trans w1) hxmB
      rw [List.map_append, List.map_append, List.map_take, List.map_drop]
      exact dpa_app (dpa_app (dpa_takeG a3 hxC) (.cons (dp_mono (v5.trans w1) dsh) .nil)) (dpa_dropG a3 hxC)
    have hex : ∃ m ∈ (MT.mk M.states M.places M.sst M.cnts M.crew (M.moves.take a3 ++ [{ mv with sh := [(1, 0)] }] ++ M.moves.drop a3)).moves, m.sh ≠ [] := ⟨{ mv with sh := [(1, 0)] }, List.mem_append_left _ (List.mem_append_right _ List.mem_cons_self), by simp⟩
    refine ⟨_, rfl, _, rfl, .ref ot, .ref D, _, rfl, dO, hex, ⟨true, rfl, iteT ?_⟩⟩
    refine ⟨_, rfl, szc 0, fun n0' hn0 => ⟨.ref ot, .ref n0', _, rfl, dp_mono (same_new hn0) dO, hex, ⟨true, rfl, iteT ?_⟩⟩⟩
    exact ⟨_, rfl, _, rfl, .ref ot, .ref pf, _, rfl, dp_mono (same_new hn0) dO, hex, q _⟩
end
theorem all_mk {l : PySem.W.OpenLaw} {w : World} {K : PySem.W.Frag} {h : Heap} {mg : Str → Option Value} {fa f1 f2 f3 f4 f5 f6 f7 f8 f9 f10 f11 f12 f13 f14 f15 f16 f17 f18 f19 f20 f21 f22 : Addr} (X : K.In h) (G : h.Ns mainGlobals mg) (hfa : mg "law" = some (.ref fa))
    {od1 an1 od2 an2 od3 an3 od4 an4 od5 an5 od6 an6 od7 an7 od8 an8 od9 an9 od10 an10 od11 an11 od12 an12 od13 an13 od14 an14 od15 an15 od16 an16 od17 an17 od18 an18 od19 an19 od20 an20 od21 an21 od22 an22 : Option Addr} {sl1 sl2 sl3 sl4 sl5 sl6 sl7 sl8 sl9 sl10 sl11 sl12 sl13 sl14 sl15 sl16 sl17 sl18 sl19 sl20 sl21 sl22 : Array (Option Value)} {oc1 kV1 dc1 pm1 cd1 ct1 oc2 kV2 dc2 pm2 cd2 ct2 oc3 kV3 dc3 pm3 cd3 ct3 oc4 kV4 dc4 pm4 cd4 ct4 oc5 kV5 dc5 pm5 cd5 ct5 oc6 kV6 dc6 pm6 cd6 ct6 oc7 kV7 dc7 pm7 cd7 ct7 oc8 kV8 dc8 pm8 cd8 ct8 oc9 kV9 dc9 pm9 cd9 ct9 oc10 kV10 dc10 pm10 cd10 ct10 oc11 kV11 dc11 pm11 cd11 ct11 oc12 kV12 dc12 pm12 cd12 ct12 oc13 kV13 dc13 pm13 cd13 ct13 oc14 kV14 dc14 pm14 cd14 ct14 oc15 kV15 dc15 pm15 cd15 ct15 oc16 kV16 dc16 pm16 cd16 ct16 oc17 kV17 dc17 pm17 cd17 ct17 oc18 kV18 dc18 pm18 cd18 ct18 oc19 kV19 dc19 pm19 cd19 ct19 oc20 kV20 dc20 pm20 cd20 ct20 oc21 kV21 dc21 pm21 cd21 ct21 oc22 kV22 dc22 pm22 cd22 ct22 : Value}
    (a1 : PySem.W.nsIn K mainGlobals "start_with" = some (some (.ref f1))) (l1 : K.lookup f1 = some ⟨oc1, od1, .func (PySem.W.fnOf "start_with" "start_with" (defArgs s_start_with) (defBody s_start_with) (defScope s_start_with) .none kV1 dc1 pm1 an1 cd1 ct1), sl1⟩) (c1 : PySem.W.codeIn K cd1 "start_with" = true) (k1 : PySem.W.keepIn K (.ref f1) = true)
    (a2 : PySem.W.nsIn K mainGlobals "wide_covers" = some (some (.ref f2))) (l2 : K.lookup f2 = some ⟨oc2, od2, .func (PySem.W.fnOf "wide_covers" "wide_covers" (defArgs s_wide_covers) (defBody s_wide_covers) (defScope s_wide_covers) .none kV2 dc2 pm2 an2 cd2 ct2), sl2⟩) (c2 : PySem.W.codeIn K cd2 "wide_covers" = true) (k2 : PySem.W.keepIn K (.ref f2) = true)
    (a3 : PySem.W.nsIn K mainGlobals "is_covered" = some (some (.ref f3))) (l3 : K.lookup f3 = some ⟨oc3, od3, .func (PySem.W.fnOf "is_covered" "is_covered" (defArgs s_is_covered) (defBody s_is_covered) (defScope s_is_covered) .none kV3 dc3 pm3 an3 cd3 ct3), sl3⟩) (c3 : PySem.W.codeIn K cd3 "is_covered" = true) (k3 : PySem.W.keepIn K (.ref f3) = true)
    (a4 : PySem.W.nsIn K mainGlobals "beginning" = some (some (.ref f4))) (l4 : K.lookup f4 = some ⟨oc4, od4, .func (PySem.W.fnOf "beginning" "beginning" (defArgs s_beginning) (defBody s_beginning) (defScope s_beginning) .none kV4 dc4 pm4 an4 cd4 ct4), sl4⟩) (c4 : PySem.W.codeIn K cd4 "beginning" = true) (k4 : PySem.W.keepIn K (.ref f4) = true)
    (a5 : PySem.W.nsIn K mainGlobals "can_take_wide" = some (some (.ref f5))) (l5 : K.lookup f5 = some ⟨oc5, od5, .func (PySem.W.fnOf "can_take_wide" "can_take_wide" (defArgs s_can_take_wide) (defBody s_can_take_wide) (defScope s_can_take_wide) .none kV5 dc5 pm5 an5 cd5 ct5), sl5⟩) (c5 : PySem.W.codeIn K cd5 "can_take_wide" = true) (k5 : PySem.W.keepIn K (.ref f5) = true)
    (a6 : PySem.W.nsIn K mainGlobals "taken_wide" = some (some (.ref f6))) (l6 : K.lookup f6 = some ⟨oc6, od6, .func (PySem.W.fnOf "taken_wide" "taken_wide" (defArgs s_taken_wide) (defBody s_taken_wide) (defScope s_taken_wide) .none kV6 dc6 pm6 an6 cd6 ct6), sl6⟩) (c6 : PySem.W.codeIn K cd6 "taken_wide" = true) (k6 : PySem.W.keepIn K (.ref f6) = true)
    (a7 : PySem.W.nsIn K mainGlobals "successors" = some (some (.ref f7))) (l7 : K.lookup f7 = some ⟨oc7, od7, .func (PySem.W.fnOf "successors" "successors" (defArgs s_successors) (defBody s_successors) (defScope s_successors) .none kV7 dc7 pm7 an7 cd7 ct7), sl7⟩) (c7 : PySem.W.codeIn K cd7 "successors" = true) (k7 : PySem.W.keepIn K (.ref f7) = true)
    (a8 : PySem.W.nsIn K mainGlobals "refuse_shifts" = some (some (.ref f8))) (l8 : K.lookup f8 = some ⟨oc8, od8, .func (PySem.W.fnOf "refuse_shifts" "refuse_shifts" (defArgs s_refuse_shifts) (defBody s_refuse_shifts) (defScope s_refuse_shifts) .none kV8 dc8 pm8 an8 cd8 ct8), sl8⟩) (c8 : PySem.W.codeIn K cd8 "refuse_shifts" = true) (k8 : PySem.W.keepIn K (.ref f8) = true)
    (a9 : PySem.W.nsIn K mainGlobals "is_closed" = some (some (.ref f9))) (l9 : K.lookup f9 = some ⟨oc9, od9, .func (PySem.W.fnOf "is_closed" "is_closed" (defArgs s_is_closed) (defBody s_is_closed) (defScope s_is_closed) .none kV9 dc9 pm9 an9 cd9 ct9), sl9⟩) (c9 : PySem.W.codeIn K cd9 "is_closed" = true) (k9 : PySem.W.keepIn K (.ref f9) = true)
    (a10 : PySem.W.nsIn K mainGlobals "_law_cell" = some (some (.ref f10))) (l10 : K.lookup f10 = some ⟨oc10, od10, .func (PySem.W.fnOf "_law_cell" "_law_cell" (defArgs s_law_cell) (defBody s_law_cell) (defScope s_law_cell) .none kV10 dc10 pm10 an10 cd10 ct10), sl10⟩) (c10 : PySem.W.codeIn K cd10 "_law_cell" = true) (k10 : PySem.W.keepIn K (.ref f10) = true)
    (a11 : PySem.W.nsIn K mainGlobals "_law_digits" = some (some (.ref f11))) (l11 : K.lookup f11 = some ⟨oc11, od11, .func (PySem.W.fnOf "_law_digits" "_law_digits" (defArgs s_law_digits) (defBody s_law_digits) (defScope s_law_digits) .none kV11 dc11 pm11 an11 cd11 ct11), sl11⟩) (c11 : PySem.W.codeIn K cd11 "_law_digits" = true) (k11 : PySem.W.keepIn K (.ref f11) = true)
    (a12 : PySem.W.nsIn K mainGlobals "_law_machine" = some (some (.ref f12))) (l12 : K.lookup f12 = some ⟨oc12, od12, .func (PySem.W.fnOf "_law_machine" "_law_machine" (defArgs s_law_machine) (defBody s_law_machine) (defScope s_law_machine) .none kV12 dc12 pm12 an12 cd12 ct12), sl12⟩) (c12 : PySem.W.codeIn K cd12 "_law_machine" = true) (k12 : PySem.W.keepIn K (.ref f12) = true)
    (a13 : PySem.W.nsIn K mainGlobals "_law_wide_covers" = some (some (.ref f13))) (l13 : K.lookup f13 = some ⟨oc13, od13, .func (PySem.W.fnOf "_law_wide_covers" "_law_wide_covers" (defArgs s_law_wide_covers) (defBody s_law_wide_covers) (defScope s_law_wide_covers) .none kV13 dc13 pm13 an13 cd13 ct13), sl13⟩) (c13 : PySem.W.codeIn K cd13 "_law_wide_covers" = true) (k13 : PySem.W.keepIn K (.ref f13) = true)
    (a14 : PySem.W.nsIn K mainGlobals "_law_wide_after" = some (some (.ref f14))) (l14 : K.lookup f14 = some ⟨oc14, od14, .func (PySem.W.fnOf "_law_wide_after" "_law_wide_after" (defArgs s_law_wide_after) (defBody s_law_wide_after) (defScope s_law_wide_after) .none kV14 dc14 pm14 an14 cd14 ct14), sl14⟩) (c14 : PySem.W.codeIn K cd14 "_law_wide_after" = true) (k14 : PySem.W.keepIn K (.ref f14) = true)
    (a15 : PySem.W.nsIn K mainGlobals "_law_wide_some" = some (some (.ref f15))) (l15 : K.lookup f15 = some ⟨oc15, od15, .func (PySem.W.fnOf "_law_wide_some" "_law_wide_some" (defArgs s_law_wide_some) (defBody s_law_wide_some) (defScope s_law_wide_some) .none kV15 dc15 pm15 an15 cd15 ct15), sl15⟩) (c15 : PySem.W.codeIn K cd15 "_law_wide_some" = true) (k15 : PySem.W.keepIn K (.ref f15) = true)
    (a16 : PySem.W.nsIn K mainGlobals "_law_more" = some (some (.ref f16))) (l16 : K.lookup f16 = some ⟨oc16, od16, .func (PySem.W.fnOf "_law_more" "_law_more" (defArgs s_law_more) (defBody s_law_more) (defScope s_law_more) .none kV16 dc16 pm16 an16 cd16 ct16), sl16⟩) (c16 : PySem.W.codeIn K cd16 "_law_more" = true) (k16 : PySem.W.keepIn K (.ref f16) = true)
    (a17 : PySem.W.nsIn K mainGlobals "_law_wide_less" = some (some (.ref f17))) (l17 : K.lookup f17 = some ⟨oc17, od17, .func (PySem.W.fnOf "_law_wide_less" "_law_wide_less" (defArgs s_law_wide_less) (defBody s_law_wide_less) (defScope s_law_wide_less) .none kV17 dc17 pm17 an17 cd17 ct17), sl17⟩) (c17 : PySem.W.codeIn K cd17 "_law_wide_less" = true) (k17 : PySem.W.keepIn K (.ref f17) = true)
    (a18 : PySem.W.nsIn K mainGlobals "_law_explored" = some (some (.ref f18))) (l18 : K.lookup f18 = some ⟨oc18, od18, .func (PySem.W.fnOf "_law_explored" "_law_explored" (defArgs s_law_explored) (defBody s_law_explored) (defScope s_law_explored) .none kV18 dc18 pm18 an18 cd18 ct18), sl18⟩) (c18 : PySem.W.codeIn K cd18 "_law_explored" = true) (k18 : PySem.W.keepIn K (.ref f18) = true)
    (a19 : PySem.W.nsIn K mainGlobals "_law_cover" = some (some (.ref f19))) (l19 : K.lookup f19 = some ⟨oc19, od19, .func (PySem.W.fnOf "_law_cover" "_law_cover" (defArgs s_law_cover) (defBody s_law_cover) (defScope s_law_cover) .none kV19 dc19 pm19 an19 cd19 ct19), sl19⟩) (c19 : PySem.W.codeIn K cd19 "_law_cover" = true) (k19 : PySem.W.keepIn K (.ref f19) = true)
    (a20 : PySem.W.nsIn K mainGlobals "_law_closed" = some (some (.ref f20))) (l20 : K.lookup f20 = some ⟨oc20, od20, .func (PySem.W.fnOf "_law_closed" "_law_closed" (defArgs s_law_closed) (defBody s_law_closed) (defScope s_law_closed) .none kV20 dc20 pm20 an20 cd20 ct20), sl20⟩) (c20 : PySem.W.codeIn K cd20 "_law_closed" = true) (k20 : PySem.W.keepIn K (.ref f20) = true)
    (a21 : PySem.W.nsIn K mainGlobals "_law_refused" = some (some (.ref f21))) (l21 : K.lookup f21 = some ⟨oc21, od21, .func (PySem.W.fnOf "_law_refused" "_law_refused" (defArgs s_law_refused) (defBody s_law_refused) (defScope s_law_refused) .none kV21 dc21 pm21 an21 cd21 ct21), sl21⟩) (c21 : PySem.W.codeIn K cd21 "_law_refused" = true) (k21 : PySem.W.keepIn K (.ref f21) = true)
    (a22 : PySem.W.nsIn K mainGlobals "law" = some (some (.ref f22))) (l22 : K.lookup f22 = some ⟨oc22, od22, .func (PySem.W.fnOf "law" "law" (defArgs s_law) (defBody s_law) (defScope s_law) .none kV22 dc22 pm22 an22 cd22 ct22), sl22⟩) (c22 : PySem.W.codeIn K cd22 "law" = true) (k22 : PySem.W.keepIn K (.ref f22) = true)
    {CL CO CN : Addr}
    (xgL : PySem.W.nsIn K mainGlobals "LegionError" = some (some (.ref CL))) (xxL : PySem.W.excIn K CL [.type "ValueError", .type "Exception", .type "BaseException", .type "object"] "ValueError.__new__" = true) (xkL : PySem.W.keepIn K (.ref CL) = true) (xtL : PySem.W.typeIn K (.ref CL) = some (.type "type")) (xiL : PySem.W.isClsIn K CL = true) (xsL : PySem.W.subIn K (.ref CL) (.ref CL) = some true) (xvL : PySem.W.subIn K (.ref CL) (.type "ValueError") = some true) (xaL : PySem.W.findIn K (.ref CL) "__getattribute__" = some (some (.builtin "BaseException.__getattribute__"))) (xbL : PySem.W.findIn K (.ref CL) "__getattr__" = some none) (xcL : PySem.W.subIn K (.ref CL) (.type "BaseException") = some true) (xdL : PySem.W.hasDictIn K CL = true) (xeL : PySem.W.findIn K (.ref CL) "__class__" = some (some (.builtin "object.__class__"))) (xmL : PySem.W.mroIn K CL (.type "object") = some true) (xgO : PySem.W.nsIn K mainGlobals "OutOfRange" = some (some (.ref CO))) (xxO : PySem.W.excIn K CO [.type "ValueError", .type "Exception", .type "BaseException", .type "object"] "ValueError.__new__" = true) (xkO : PySem.W.keepIn K (.ref CO) = true) (xtO : PySem.W.typeIn K (.ref CO) = some (.type "type")) (xiO : PySem.W.isClsIn K CO = true) (xsO : PySem.W.subIn K (.ref CO) (.ref CO) = some true) (xvO : PySem.W.subIn K (.ref CO) (.type "ValueError") = some true) (xaO : PySem.W.findIn K (.ref CO) "__getattribute__" = some (some (.builtin "BaseException.__getattribute__"))) (xbO : PySem.W.findIn K (.ref CO) "__getattr__" = some none) (xcO : PySem.W.subIn K (.ref CO) (.type "BaseException") = some true) (xdO : PySem.W.hasDictIn K CO = true) (xeO : PySem.W.findIn K (.ref CO) "__class__" = some (some (.builtin "object.__class__"))) (xmO : PySem.W.mroIn K CO (.type "object") = some true) (xgN : PySem.W.nsIn K mainGlobals "NotPossible" = some (some (.ref CN))) (xxN : PySem.W.excIn K CN [.type "ValueError", .type "Exception", .type "BaseException", .type "object"] "ValueError.__new__" = true) (xkN : PySem.W.keepIn K (.ref CN) = true) (xtN : PySem.W.typeIn K (.ref CN) = some (.type "type")) (xiN : PySem.W.isClsIn K CN = true) (xsN : PySem.W.subIn K (.ref CN) (.ref CN) = some true) (xvN : PySem.W.subIn K (.ref CN) (.type "ValueError") = some true) (xaN : PySem.W.findIn K (.ref CN) "__getattribute__" = some (some (.builtin "BaseException.__getattribute__"))) (xbN : PySem.W.findIn K (.ref CN) "__getattr__" = some none) (xcN : PySem.W.subIn K (.ref CN) (.type "BaseException") = some true) (xdN : PySem.W.hasDictIn K CN = true) (xeN : PySem.W.findIn K (.ref CN) "__class__" = some (some (.builtin "object.__class__"))) (xmN : PySem.W.mroIn K CN (.type "object") = some true)
    (xn : PySem.W.specialIn K (.builtin "object.__class__") "__get__" = some (some (.builtin "getset_descriptor.__get__"))) (xh : PySem.W.takesIn K (.builtin "object.__class__") = some true)
    (rOL : PySem.W.subIn K (.ref CO) (.ref CL) = some true) (rON : PySem.W.subIn K (.ref CO) (.ref CN) = some false) (rNL : PySem.W.subIn K (.ref CN) (.ref CL) = some true) (rNO : PySem.W.subIn K (.ref CN) (.ref CO) = some false)
    (z_len : PySem.W.nsIn K mainGlobals "len" = some none) (z_int : PySem.W.nsIn K mainGlobals "int" = some none) (z_abs : PySem.W.nsIn K mainGlobals "abs" = some none) (z_range : PySem.W.nsIn K mainGlobals "range" = some none) (z_min : PySem.W.nsIn K mainGlobals "min" = some none) (z_str : PySem.W.nsIn K mainGlobals "str" = some none) (z_isinstance : PySem.W.nsIn K mainGlobals "isinstance" = some none) (z_bool : PySem.W.nsIn K mainGlobals "bool" = some none) (z_dict : PySem.W.nsIn K mainGlobals "dict" = some none) (z_sum : PySem.W.nsIn K mainGlobals "sum" = some none) (z_list : PySem.W.nsIn K mainGlobals "list" = some none) (z_tuple : PySem.W.nsIn K mainGlobals "tuple" = some none) (z_repr : PySem.W.nsIn K mainGlobals "repr" = some none) (z_sorted : PySem.W.nsIn K mainGlobals "sorted" = some none) (z_enumerate : PySem.W.nsIn K mainGlobals "enumerate" = some none) (z_zip : PySem.W.nsIn K mainGlobals "zip" = some none) (z_all : PySem.W.nsIn K mainGlobals "all" = some none) (z_max : PySem.W.nsIn K mainGlobals "max" = some none) (z_set : PySem.W.nsIn K mainGlobals "set" = some none) (z_ValueError : PySem.W.nsIn K mainGlobals "ValueError" = some none) :
    ∀ base : Heap, K.In base → base.Ns mainGlobals mg → TopOk l.prog w K mg base fa (spLaw K) := by
  have e := hfa.symm.trans (PySem.W.mg_of X G a22)
  cases e
  have F1 := fun_mk (st := s_start_with) l1 c1 k1
  have F2 := fun_mk (st := s_wide_covers) l2 c2 k2
  have F3 := fun_mk (st := s_is_covered) l3 c3 k3
  have F4 := fun_mk (st := s_beginning) l4 c4 k4
  have F5 := fun_mk (st := s_can_take_wide) l5 c5 k5
  have F6 := fun_mk (st := s_taken_wide) l6 c6 k6
  have F7 := fun_mk (st := s_successors) l7 c7 k7
  have F8 := fun_mk (st := s_refuse_shifts) l8 c8 k8
  have F9 := fun_mk (st := s_is_closed) l9 c9 k9
  have F10 := fun_mk (st := s_law_cell) l10 c10 k10
  have F11 := fun_mk (st := s_law_digits) l11 c11 k11
  have F12 := fun_mk (st := s_law_machine) l12 c12 k12
  have F13 := fun_mk (st := s_law_wide_covers) l13 c13 k13
  have F14 := fun_mk (st := s_law_wide_after) l14 c14 k14
  have F15 := fun_mk (st := s_law_wide_some) l15 c15 k15
  have F16 := fun_mk (st := s_law_more) l16 c16 k16
  have F17 := fun_mk (st := s_law_wide_less) l17 c17 k17
  have F18 := fun_mk (st := s_law_explored) l18 c18 k18
  have F19 := fun_mk (st := s_law_cover) l19 c19 k19
  have F20 := fun_mk (st := s_law_closed) l20 c20 k20
  have F21 := fun_mk (st := s_law_refused) l21 c21 k21
  have F22 := fun_mk (st := s_law) l22 c22 k22
  have B : Bt mg := { len := PySem.W.mg_none_of X G z_len, int := PySem.W.mg_none_of X G z_int, abs := PySem.W.mg_none_of X G z_abs, range := PySem.W.mg_none_of X G z_range, min := PySem.W.mg_none_of X G z_min, str := PySem.W.mg_none_of X G z_str, isinstance := PySem.W.mg_none_of X G z_isinstance, bool := PySem.W.mg_none_of X G z_bool, dict := PySem.W.mg_none_of X G z_dict, sum := PySem.W.mg_none_of X G z_sum, list := PySem.W.mg_none_of X G z_list, tuple := PySem.W.mg_none_of X G z_tuple, repr := PySem.W.mg_none_of X G z_repr, sorted := PySem.W.mg_none_of X G z_sorted, enumerate := PySem.W.mg_none_of X G z_enumerate, zip := PySem.W.mg_none_of X G z_zip, all := PySem.W.mg_none_of X G z_all, max := PySem.W.mg_none_of X G z_max, set := PySem.W.mg_none_of X G z_set, ValueError := PySem.W.mg_none_of X G z_ValueError }
  have XL : ExcX K mg "LegionError" CL := ⟨PySem.W.mg_of X G xgL, xxL, xkL, xtL, xiL, xsL, xvL, ⟨xaL, xbL, xcL, xdL, xeL, xn, xh, xmL⟩⟩
  have XO : ExcX K mg "OutOfRange" CO := ⟨PySem.W.mg_of X G xgO, xxO, xkO, xtO, xiO, xsO, xvO, ⟨xaO, xbO, xcO, xdO, xeO, xn, xh, xmO⟩⟩
  have XN : ExcX K mg "NotPossible" CN := ⟨PySem.W.mg_of X G xgN, xxN, xkN, xtN, xiN, xsN, xvN, ⟨xaN, xbN, xcN, xdN, xeN, xn, xh, xmN⟩⟩
  intro base _ _
  have D_start_with := fd_start_with (P := l.prog) (w := w) (base := base) F1 (PySem.W.mg_of X G a1) B
  have D_wide_covers := fd_wide_covers (P := l.prog) (w := w) (base := base) F2 (PySem.W.mg_of X G a2) B
  have D_is_covered := fd_is_covered (P := l.prog) (w := w) (base := base) F3 (PySem.W.mg_of X G a3) D_wide_covers
  have D_beginning := fd_beginning (P := l.prog) (w := w) (base := base) F4 (PySem.W.mg_of X G a4) D_start_with
  have D_can_take_wide := fd_can_take_wide (P := l.prog) (w := w) (base := base) F5 (PySem.W.mg_of X G a5) B
  have D_taken_wide := fd_taken_wide (P := l.prog) (w := w) (base := base) F6 (PySem.W.mg_of X G a6) B
  have D_successors := fd_successors (P := l.prog) (w := w) (base := base) F7 (PySem.W.mg_of X G a7) D_can_take_wide D_taken_wide
  have D_refuse_shifts := fd_refuse_shifts (P := l.prog) (w := w) (base := base) F8 (PySem.W.mg_of X G a8) 
  have D_is_closed := fd_is_closed (P := l.prog) (w := w) (base := base) F9 (PySem.W.mg_of X G a9) D_refuse_shifts D_is_covered D_beginning D_successors
  have DX_refuse_shifts := fdX_refuse_shifts (P := l.prog) (w := w) (base := base) F8 (PySem.W.mg_of X G a8) XN
  have DX_is_closed := fdX_is_closed (P := l.prog) (w := w) (base := base) F9 (PySem.W.mg_of X G a9) DX_refuse_shifts
  have D_law_cell := fd_law_cell (P := l.prog) (w := w) (base := base) F10 (PySem.W.mg_of X G a10) B
  have D_law_digits := fd_law_digits (P := l.prog) (w := w) (base := base) F11 (PySem.W.mg_of X G a11) B
  have D_law_machine := fd_law_machine (P := l.prog) (w := w) (base := base) F12 (PySem.W.mg_of X G a12) B D_law_digits
  have D_law_wide_covers := fd_law_wide_covers (P := l.prog) (w := w) (base := base) F13 (PySem.W.mg_of X G a13) B
  have D_law_wide_after := fd_law_wide_after (P := l.prog) (w := w) (base := base) F14 (PySem.W.mg_of X G a14) B
  have D_law_wide_some := fd_law_wide_some (P := l.prog) (w := w) (base := base) F15 (PySem.W.mg_of X G a15) B D_law_digits
  have D_law_more := fd_law_more (P := l.prog) (w := w) (base := base) F16 (PySem.W.mg_of X G a16) 
  have D_law_wide_less := fd_law_wide_less (P := l.prog) (w := w) (base := base) F17 (PySem.W.mg_of X G a17) B D_law_more
  have D_law_explored := fd_law_explored (P := l.prog) (w := w) (base := base) F18 (PySem.W.mg_of X G a18) B D_law_wide_covers D_law_more D_law_wide_after
  have D_law_cover := fd_law_cover (P := l.prog) (w := w) (base := base) F19 (PySem.W.mg_of X G a19) B D_law_wide_covers D_law_wide_less
  have D_law_closed := fd_law_closed (P := l.prog) (w := w) (base := base) F20 (PySem.W.mg_of X G a20) B D_law_wide_after D_law_wide_covers
  have D_law_refused := fd_law_refused (P := l.prog) (w := w) (base := base) F21 (PySem.W.mg_of X G a21) B XO XN rNO DX_is_closed
  exact fd_law F22 (PySem.W.mg_of X G a22) (fun s v => .of_eq rfl) B D_law_cell D_law_digits D_law_machine D_law_wide_some D_law_explored D_law_cover D_law_closed D_law_refused D_is_closed
end My
open PySem PySem.W PyProof.Rows
set_option maxRecDepth 100000 in
set_option maxHeartbeats 0 in
theorem PySem.Challenge.cw_legion_k53_closed_lists_accepted_holds : PySem.Challenge.rw_legion_k53_closed_lists_accepted.Holds := by
  w_on; o_law; k_head; (case hw => w_witness2)
  k_fill
  refine My.walk_top (l := PySem.Challenge.rw_legion_k53_closed_lists_accepted) (n := 63) (sp := fun w => My.spLaw _) rfl (by decide) rfl (fun w h Y => PySem.W.kIn_of Y) ?F (fun _ _ a ns hl hS => ⟨a, ns, rfl, hS, hl, fun _ => rfl⟩)
  case F =>
    intro w mg fa h KX G hmg
    refine' My.all_mk KX G hmg ?a1 ?l1 ?c1 ?k1 ?a2 ?l2 ?c2 ?k2 ?a3 ?l3 ?c3 ?k3 ?a4 ?l4 ?c4 ?k4 ?a5 ?l5 ?c5 ?k5 ?a6 ?l6 ?c6 ?k6 ?a7 ?l7 ?c7 ?k7 ?a8 ?l8 ?c8 ?k8 ?a9 ?l9 ?c9 ?k9 ?a10 ?l10 ?c10 ?k10 ?a11 ?l11 ?c11 ?k11 ?a12 ?l12 ?c12 ?k12 ?a13 ?l13 ?c13 ?k13 ?a14 ?l14 ?c14 ?k14 ?a15 ?l15 ?c15 ?k15 ?a16 ?l16 ?c16 ?k16 ?a17 ?l17 ?c17 ?k17 ?a18 ?l18 ?c18 ?k18 ?a19 ?l19 ?c19 ?k19 ?a20 ?l20 ?c20 ?k20 ?a21 ?l21 ?c21 ?k21 ?a22 ?l22 ?c22 ?k22 ?xgL ?xxL ?xkL ?xtL ?xiL ?xsL ?xvL ?xaL ?xbL ?xcL ?xdL ?xeL ?xmL ?xgO ?xxO ?xkO ?xtO ?xiO ?xsO ?xvO ?xaO ?xbO ?xcO ?xdO ?xeO ?xmO ?xgN ?xxN ?xkN ?xtN ?xiN ?xsN ?xvN ?xaN ?xbN ?xcN ?xdN ?xeN ?xmN ?xn ?xh ?rOL ?rON ?rNL ?rNO ?z_len ?z_int ?z_abs ?z_range ?z_min ?z_str ?z_isinstance ?z_bool ?z_dict ?z_sum ?z_list ?z_tuple ?z_repr ?z_sorted ?z_enumerate ?z_zip ?z_all ?z_max ?z_set ?z_ValueError
    (case xgL => k_is)
    (case xxL => k_exc)
    (case xkL => k_is)
    (case xtL => k_is)
    (case xiL => k_is)
    (case xsL => k_is)
    (case xvL => k_is)
    (case xaL => k_is)
    (case xbL => k_is)
    (case xcL => k_is)
    (case xdL => k_is)
    (case xeL => k_is)
    (case xmL => k_is)
    (case xgO => k_is)
    (case xxO => k_exc)
    (case xkO => k_is)
    (case xtO => k_is)
    (case xiO => k_is)
    (case xsO => k_is)
    (case xvO => k_is)
    (case xaO => k_is)
    (case xbO => k_is)
    (case xcO => k_is)
    (case xdO => k_is)
    (case xeO => k_is)
    (case xmO => k_is)
    (case xgN => k_is)
    (case xxN => k_exc)
    (case xkN => k_is)
    (case xtN => k_is)
    (case xiN => k_is)
    (case xsN => k_is)
    (case xvN => k_is)
    (case xaN => k_is)
    (case xbN => k_is)
    (case xcN => k_is)
    (case xdN => k_is)
    (case xeN => k_is)
    (case xmN => k_is)
    (case xn => k_is)
    (case xh => k_is)
    (case rOL => k_is)
    (case rON => k_is)
    (case rNL => k_is)
    (case rNO => k_is)
    (case a1 => k_is); (case l1 => k_is); (case c1 => k_is); (case k1 => k_is)
    (case a2 => k_is); (case l2 => k_is); (case c2 => k_is); (case k2 => k_is)
    (case a3 => k_is); (case l3 => k_is); (case c3 => k_is); (case k3 => k_is)
    (case a4 => k_is); (case l4 => k_is); (case c4 => k_is); (case k4 => k_is)
    (case a5 => k_is); (case l5 => k_is); (case c5 => k_is); (case k5 => k_is)
    (case a6 => k_is); (case l6 => k_is); (case c6 => k_is); (case k6 => k_is)
    (case a7 => k_is); (case l7 => k_is); (case c7 => k_is); (case k7 => k_is)
    (case a8 => k_is); (case l8 => k_is); (case c8 => k_is); (case k8 => k_is)
    (case a9 => k_is); (case l9 => k_is); (case c9 => k_is); (case k9 => k_is)
    (case a10 => k_is); (case l10 => k_is); (case c10 => k_is); (case k10 => k_is)
    (case a11 => k_is); (case l11 => k_is); (case c11 => k_is); (case k11 => k_is)
    (case a12 => k_is); (case l12 => k_is); (case c12 => k_is); (case k12 => k_is)
    (case a13 => k_is); (case l13 => k_is); (case c13 => k_is); (case k13 => k_is)
    (case a14 => k_is); (case l14 => k_is); (case c14 => k_is); (case k14 => k_is)
    (case a15 => k_is); (case l15 => k_is); (case c15 => k_is); (case k15 => k_is)
    (case a16 => k_is); (case l16 => k_is); (case c16 => k_is); (case k16 => k_is)
    (case a17 => k_is); (case l17 => k_is); (case c17 => k_is); (case k17 => k_is)
    (case a18 => k_is); (case l18 => k_is); (case c18 => k_is); (case k18 => k_is)
    (case a19 => k_is); (case l19 => k_is); (case c19 => k_is); (case k19 => k_is)
    (case a20 => k_is); (case l20 => k_is); (case c20 => k_is); (case k20 => k_is)
    (case a21 => k_is); (case l21 => k_is); (case c21 => k_is); (case k21 => k_is)
    (case a22 => k_is); (case l22 => k_is); (case c22 => k_is); (case k22 => k_is)
    (case z_len => k_is); (case z_int => k_is); (case z_abs => k_is); (case z_range => k_is); (case z_min => k_is); (case z_str => k_is); (case z_isinstance => k_is); (case z_bool => k_is); (case z_dict => k_is); (case z_sum => k_is); (case z_list => k_is); (case z_tuple => k_is); (case z_repr => k_is); (case z_sorted => k_is); (case z_enumerate => k_is); (case z_zip => k_is); (case z_all => k_is); (case z_max => k_is); (case z_set => k_is); (case z_ValueError => k_is)
